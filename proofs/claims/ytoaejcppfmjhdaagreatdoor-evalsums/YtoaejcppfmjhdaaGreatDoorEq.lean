/- Package eval: where a text lies in another one. Conditions: as each theorem says. -/
import Derived.Test.YtoaejcppfmjhdaaGreatDoorEb
import Derived.Test.YtoaejcppfmjhdaaGreatDoorAname
import Derived.Lib.IndexMore
import Derived.Test.YtoaejcppfmjhdaaGreatDoorEp
namespace Go.Proofs.YtoaejcppfmjhdaaGreatDoor.ev
open Go.RowKit
theorem index_any (s sub : ByteArray) (m : Int) (w : World) (hs : s.size < 4294967281) (hm : w.cell? ⟨2, 0, none⟩ = some (.int .i64 m)) :
    Calls Tryz.prog 248 #[.string s, .string sub] w fun e w' => e = .returned (.int .i64 (Lib.index s.data.toList sub.data.toList)) ∧ w' = w :=
  Go.Proofs.Any.strings_Index { Tryz.lays155 with } s sub m w hs hm
set_option maxHeartbeats 800000 in
theorem find_no (p t : ByteArray) (m : Int) (w : World) (hs : t.size < 4294967281) (hm : w.cell? ⟨2, 0, none⟩ = some (.int .i64 m)) (j : Int) (hj : Lib.index t.data.toList p.data.toList = j) (h0 : j < 0) :
    Calls Tryz.prog 194 #[.string p, .string t] w fun e w' => e = .returned (VV 4 (2) nul) ∧ Below w.heap.size w w' := by
  have HI : Hid (Calls Tryz.prog 248 #[.string t, .string p] (w.alloc (.cells #[.int .i64 0, .int .i64 0, .string nul] 31)) fun e w' => e = .returned (.int .i64 j) ∧ w' = w.alloc (.cells #[.int .i64 0, .int .i64 0, .string nul] 31)) := by
    have := index_any t p m (w.alloc (.cells #[.int .i64 0, .int .i64 0, .string nul] 31)) hs (by rw [World.cell?_alloc_old _ _ _ (Nat.ne_of_lt (World.block_lt_of_cell? _ _ hm))]; exact hm)
    rw [hj] at this
    exact this
  have HT : Hid (∀ z wx, Calls Tryz.prog 47 #[.int .i64 z] wx fun e w' => e = .returned (VV 4 z nul) ∧ Below wx.heap.size wx w') := fun z wx => bad_any z wx
  have HQ : Hid (∀ w1, Below (w.alloc (.cells #[.int .i64 0, .int .i64 0, .string nul] 31)).heap.size (w.alloc (.cells #[.int .i64 0, .int .i64 0, .string nul] 31)) w1 → w1.heap[w.heap.size]? = some (.cells #[.int .i64 0, .int .i64 0, .string nul] 31 (0, 0)) ∧ Below w.heap.size w w1) := fun w1 hb =>
    ⟨(hb.block w.heap.size (by simp)).trans (heap_alloc_new w _), bnext ((Below.refl w.heap.size w).alloc (Nat.le_refl _) (.cells #[.int .i64 0, .int .i64 0, .string nul] 31)) hb (by simp)⟩
  clear hj hm
  have hd : decide (j < 0) = true := by simpa using h0
  go_enter Tryz.func194, Tryz.ntmps194
  go_wp2_with fail
  refine HI.out.mono ?_
  rintro e w1 ⟨rfl, rfl⟩
  clear HI
  go_wp2_with fail
  refine (HT.out _ _).mono ?_
  rintro e w1 ⟨rfl, hb1⟩
  obtain ⟨hq1, hb2⟩ := HQ.out w1 hb1
  have HB : Hid (Below w.heap.size w w1) := hb2
  have c0 : w1.cell? ⟨w.heap.size, 0, none⟩ = some (.int .i64 0) := by simp [World.cell?, hq1]
  have c1 : w1.cell? ⟨w.heap.size, 1, none⟩ = some (.int .i64 0) := by simp [World.cell?, hq1]
  have c2 : w1.cell? ⟨w.heap.size, 2, none⟩ = some (.string nul) := by simp [World.cell?, hq1]
  have f0 : ∀ o, w1.frozen? ⟨w.heap.size, o, none⟩ = false := fun o => by simp [World.frozen?, hq1]
  clear hb2 hb1 HQ HT
  have HQ1 : Hid (w1.heap[w.heap.size]? = some (.cells #[.int .i64 0, .int .i64 0, .string nul] 31 (0, 0))) := hq1
  clear hq1
  go_wp2_with fail
  refine fin3 HQ1.out (Q := bodyPost _ _ _ _ _) ?_
  clear c0 c1 c2 f0
  intro w2 hq2 hk2
  obtain ⟨d0, d1, d2⟩ := cells3v hq2
  exact bodyPost_ret (v := VV 4 (2) nul) (by simp [results, Tryz.results194, go_sem, d0, d1, d2]) rfl ⟨rfl, HB.out.trans (hk2 _ (Nat.le_refl _))⟩
set_option maxHeartbeats 800000 in
theorem find_at (p t : ByteArray) (m : Int) (w : World) (hs : t.size < 4294967281) (hm : w.cell? ⟨2, 0, none⟩ = some (.int .i64 m)) (j : Int) (hj : Lib.index t.data.toList p.data.toList = j) (h0 : 0 ≤ j) (h1 : j < 4294967281) :
    Calls Tryz.prog 194 #[.string p, .string t] w fun e w' => e = .returned (VV 1 (j + 1) nul) ∧ Below w.heap.size w w' := by
  have HI : Hid (Calls Tryz.prog 248 #[.string t, .string p] (w.alloc (.cells #[.int .i64 0, .int .i64 0, .string nul] 31)) fun e w' => e = .returned (.int .i64 j) ∧ w' = w.alloc (.cells #[.int .i64 0, .int .i64 0, .string nul] 31)) := by
    have := index_any t p m (w.alloc (.cells #[.int .i64 0, .int .i64 0, .string nul] 31)) hs (by rw [World.cell?_alloc_old _ _ _ (Nat.ne_of_lt (World.block_lt_of_cell? _ _ hm))]; exact hm)
    rw [hj] at this
    exact this
  have HT : Hid (∀ z wx, Calls Tryz.prog 44 #[.int .i64 z] wx fun e w' => e = .returned (VV 1 z nul) ∧ Below wx.heap.size wx w') := fun z wx => number_any z wx
  have HQ : Hid (∀ w1, Below (w.alloc (.cells #[.int .i64 0, .int .i64 0, .string nul] 31)).heap.size (w.alloc (.cells #[.int .i64 0, .int .i64 0, .string nul] 31)) w1 → w1.heap[w.heap.size]? = some (.cells #[.int .i64 0, .int .i64 0, .string nul] 31 (0, 0)) ∧ Below w.heap.size w w1) := fun w1 hb =>
    ⟨(hb.block w.heap.size (by simp)).trans (heap_alloc_new w _), bnext ((Below.refl w.heap.size w).alloc (Nat.le_refl _) (.cells #[.int .i64 0, .int .i64 0, .string nul] 31)) hb (by simp)⟩
  clear hj hm
  have hd : decide (j < 0) = false := by simpa using h0
  go_enter Tryz.func194, Tryz.ntmps194
  go_wp2_with fail
  refine HI.out.mono ?_
  rintro e w1 ⟨rfl, rfl⟩
  clear HI
  go_wp2_with fail
  refine (HT.out _ _).mono ?_
  rintro e w1 ⟨rfl, hb1⟩
  obtain ⟨hq1, hb2⟩ := HQ.out w1 hb1
  have HB : Hid (Below w.heap.size w w1) := hb2
  have c0 : w1.cell? ⟨w.heap.size, 0, none⟩ = some (.int .i64 0) := by simp [World.cell?, hq1]
  have c1 : w1.cell? ⟨w.heap.size, 1, none⟩ = some (.int .i64 0) := by simp [World.cell?, hq1]
  have c2 : w1.cell? ⟨w.heap.size, 2, none⟩ = some (.string nul) := by simp [World.cell?, hq1]
  have f0 : ∀ o, w1.frozen? ⟨w.heap.size, o, none⟩ = false := fun o => by simp [World.frozen?, hq1]
  clear hb2 hb1 HQ HT
  have HQ1 : Hid (w1.heap[w.heap.size]? = some (.cells #[.int .i64 0, .int .i64 0, .string nul] 31 (0, 0))) := hq1
  clear hq1
  go_wp2_with fail
  refine fin3 HQ1.out (Q := bodyPost _ _ _ _ _) ?_
  clear c0 c1 c2 f0
  intro w2 hq2 hk2
  obtain ⟨d0, d1, d2⟩ := cells3v hq2
  exact bodyPost_ret (v := VV 1 (j + 1) nul) (by simp [results, Tryz.results194, go_sem, d0, d1, d2]) rfl ⟨rfl, HB.out.trans (hk2 _ (Nat.le_refl _))⟩
end Go.Proofs.YtoaejcppfmjhdaaGreatDoor.ev
/- A text cut in two, in plain Lean: its halves, and where the second one is found. No program is walked here. -/
namespace Go.Proofs.YtoaejcppfmjhdaaGreatDoor.ev
theorem ba_ext {a b : ByteArray} (h : a.data = b.data) : a = b := by cases a; cases b; simp at h; rw [h]
theorem left_eq (t : ByteArray) (n : Nat) (h : n ≤ t.size) : midT t 1 n = t.extract 0 n := by
  unfold midT
  rw [show (min ((1 : Int) - 1) (t.size : Int)).toNat = 0 from by omega, show (min (n : Int) ((t.size - 0 : Nat) : Int)).toNat = n from by omega]
  apply ba_ext
  simp only [ByteArray.data_extract]
  rw [Array.extract_extract]
  simp only [Nat.add_zero, Nat.zero_add]
  rw [Nat.min_eq_left h]
theorem mid_eq (t : ByteArray) (n : Nat) (h : n ≤ t.size) : midT t ((n : Int) + 1) ((t.size : Int) - n) = t.extract n t.size := by
  unfold midT
  rw [show (min ((n : Int) + 1 - 1) (t.size : Int)).toNat = n from by omega, show (min ((t.size : Int) - n) ((t.size - n : Nat) : Int)).toNat = t.size - n from by omega]
  apply ba_ext
  simp only [ByteArray.data_extract]
  rw [Array.extract_extract]
  simp only [Nat.add_zero]
  rw [show min (n + (t.size - n)) t.size = t.size from by omega]
theorem right_eq (t : ByteArray) (n : Nat) : rightT t ((t.size : Int) - n) = t.extract n t.size := by
  unfold rightT
  rw [show ((t.size : Int) - min ((t.size : Int) - n) (t.size : Int)).toNat = n from by omega]
theorem halves (t : ByteArray) (n : Nat) (h : n ≤ t.size) : t.extract 0 n ++ t.extract n t.size = t := by
  apply ba_ext
  rw [ByteArray.data_append]
  simp only [ByteArray.data_extract]
  rw [Array.extract_append_extract]
  simp
  have : t.size = t.data.size := rfl
  omega
theorem found (t : ByteArray) (n : Nat) (h : n ≤ t.size) : ∃ j : Nat, Lib.index t.data.toList (t.extract n t.size).data.toList = j ∧ j ≤ n := by
  have hd : (t.extract n t.size).data.toList = t.data.toList.drop n := by
    simp only [ByteArray.data_extract, Array.toList_extract]
    rw [List.extract_eq_take_drop]
    have : t.size = t.data.toList.length := rfl
    rw [List.take_of_length_le (by simp)]
  rw [hd]
  have ho : Lib.occAt t.data.toList (t.data.toList.drop n) n = true := by simp [Lib.occAt]
  rcases Lib.index_spec t.data.toList (t.data.toList.drop n) with ⟨-, h1⟩ | ⟨i, h1, -, -, h2⟩
  · rw [h1 n h] at ho; cases ho
  · refine ⟨i, h1, ?_⟩
    rcases Nat.lt_or_ge n i with q | q
    · have := h2 n q; rw [this] at ho; cases ho
    · exact q
end Go.Proofs.YtoaejcppfmjhdaaGreatDoor.ev
/- Package eval: what a node comes to where texts are cut, joined and looked for, by induction over the node. Conditions: as each theorem says. -/
namespace Go.Proofs.YtoaejcppfmjhdaaGreatDoor.ev
open Go.RowKit
theorem laid_out : laidOutB Tryz.prog = true := by kernel_rfl
theorem under68 : Tryz.prog.underlying 68 = some (.map 23 31) := by kernel_rfl
theorem key23 : WideMaps.KeyLaw Tryz.prog 23 := Go.deep_law_laid laid_out (m := 5) (by decide) (of_decide_eq_true (by kernel_rfl)) (by kernel_rfl) (by kernel_rfl)
/-- What the letters ask of the arguments. -/
abbrev Flds (L : ByteArray) (m : Nat → Int) (z : Nat → ByteArray) (cs : Nat → Nat → Value) : Prop := ∀ i (h : i < L.size), (L[i].toNat = 110 → cs i 3 = .int .i64 (m i)) ∧ (L[i].toNat = 116 → cs i 4 = .string (z i))
theorem named (mb : Nat) (nm L : ByteArray) (K : Nat) {w0 : World} {P : Nat → Prop} {p : Option Addr} {q c : Nat} {us : List Value} {ts : List fm.T} (hk : fm.Kids w0 P p q c us) (hl : us.length = ts.length) (hs : ∀ (i : Nat) u t', us[i]? = some u → ts[i]? = some t' → fm.Nd w0 P u t')
    (hq : q ≤ 3) (hL : L.size = q) (k m : Nat → Int) (z : Nat → ByteArray) (hlet : ∀ i (h : i < L.size), L[i].toNat = 116 ∨ L[i].toNat = 110) (hkk : ∀ i (h : i < L.size), (L[i].toNat = 116 → k i = 2) ∧ (L[i].toNat = 110 → k i = 1))
    (HF : ∀ wx, Calls Tryz.prog 83 #[.string nm] wx fun e w' => ∃ p q', e = .returned (fnV q p q') ∧ Taking w' L K p q' ∧ Below wx.heap.size wx w') (hE : ∀ v wx, Sem.run Tryz.prog (callFunc K #[v]) wx = .ok (.enter K #[v]) wx)
    (HC : ∀ i u, us[i]? = some u → ∀ wx, Below w0.heap.size w0 wx → Calls Tryz.prog 29 #[.map (some mb), u] wx fun e w' => e = .returned (VV (k i) (m i) (z i)) ∧ Below wx.heap.size wx w')
    (kr mr : Int) (zr : ByteArray) (w : World) (hb : Below w0.heap.size w0 w)
    (HK : ∀ wx A cs, AB wx A q cs → Flds L m z cs → Below w.heap.size w wx → Calls Tryz.prog K #[.slice (some ⟨A, 0, none⟩) q q] wx fun e w' => e = .returned (VV kr mr zr) ∧ Below wx.heap.size wx w') :
    Calls Tryz.prog 29 #[.map (some mb), fm.NV 9 0 nm .z .z (.slice p q c)] w fun e w' => e = .returned (VV kr mr zr) ∧ Below w.heap.size w w' := by
  refine wo_call (some mb) nm p q c kr mr zr w (fun wx hx => ?_)
  refine call_any (some mb) nm p q c L K (Flds L m z) kr mr zr wx hE HF (fun wy hy => ?_) (fun wy A cs h1 h2 h3 => HK wy A cs h1 h2 (bnext hx h3 hx.size))
  exact arguments_any (.map (some mb)) p q c L wy hq hL k m z hlet hkk (fun i wz hi hz => value_any hk hl hs (.map (some mb)) i hi (k i) (m i) (z i) (fun wu u hu hbu => HC i u hu wu hbu) wz (bnext (bnext (bnext hb hx hb.size) hy (bnext hb hx hb.size).size) hz (bnext (bnext hb hx hb.size) hy (bnext hb hx hb.size).size).size))
/-- What a node comes to by values of cells, as far as texts are cut, joined and looked for. -/
inductive Ev (f : Value → Option Value) : fm.T → Int → Int → ByteArray → Prop
  | num {n : Int} : Ev f (.nd 1 n nul .z .z []) 1 n nul
  | text {s : ByteArray} : Ev f (.nd 2 0 s .z .z []) 2 0 s
  | ref {r : fm.Rf} {k m : Int} {s : ByteArray} (h : f (.agg #[.int .i64 r.c, .int .i64 r.r]) = some (VV k m s)) : Ev f (.nd 5 0 nul r .z []) k m s
  | cat {a b : fm.T} {s t : ByteArray} (ha : Ev f a 2 0 s) (hb : Ev f b 2 0 t) (hl : s.size + t.size ≤ 200) : Ev f (.nd 8 7 nul .z .z [a, b]) 2 0 (s ++ t)
  | len {a : fm.T} {s : ByteArray} (ha : Ev f a 2 0 s) : Ev f (.nd 9 0 ⟨#[76, 69, 78]⟩ .z .z [a]) 1 s.size nul
  | left {a b : fm.T} {s : ByteArray} {n : Int} (ha : Ev f a 2 0 s) (hb : Ev f b 1 n nul) (hn : 0 ≤ n) (hs : s.size ≤ 200) : Ev f (.nd 9 0 ⟨#[76, 69, 70, 84]⟩ .z .z [a, b]) 2 0 (midT s 1 n)
  | right {a b : fm.T} {s : ByteArray} {n : Int} (ha : Ev f a 2 0 s) (hb : Ev f b 1 n nul) (hn : 0 ≤ n) (hs : s.size ≤ 200) : Ev f (.nd 9 0 ⟨#[82, 73, 71, 72, 84]⟩ .z .z [a, b]) 2 0 (rightT s n)
  | mid {a b c : fm.T} {s : ByteArray} {i n : Int} (ha : Ev f a 2 0 s) (hb : Ev f b 1 i nul) (hc : Ev f c 1 n nul) (hi : 1 ≤ i) (hi2 : i ≤ 9223372036854775807) (hn : 0 ≤ n) (hs : s.size ≤ 200) : Ev f (.nd 9 0 ⟨#[77, 73, 68]⟩ .z .z [a, b, c]) 2 0 (midT s i n)
  | find {a b : fm.T} {p s : ByteArray} {j : Int} (ha : Ev f a 2 0 p) (hb : Ev f b 2 0 s) (hs : s.size ≤ 200) (hj : Lib.index s.data.toList p.data.toList = j) (h0 : 0 ≤ j) (h1 : j ≤ 200) : Ev f (.nd 9 0 ⟨#[70, 73, 78, 68]⟩ .z .z [a, b]) 1 (j + 1) nul
  | exact {a b : fm.T} {s : ByteArray} (ha : Ev f a 2 0 s) (hb : Ev f b 2 0 s) : Ev f (.nd 9 0 ⟨#[69, 88, 65, 67, 84]⟩ .z .z [a, b]) 3 1 nul
/-- What is asked of a world. -/
structure EvW (w : World) (mb : Nat) (f : Value → Option Value) : Prop where
  map : mp.CM Tryz.prog 23 w mb f
  lt : mb < w.heap.size
  max : ∃ m, w.cell? ⟨2, 0, none⟩ = some (.int .i64 m)
  size : 2 < w.heap.size
theorem EvW.next {w w' : World} {mb : Nat} {f : Value → Option Value} (h : EvW w mb f) (hb : Below w.heap.size w w') : EvW w' mb f :=
  ⟨mp.cm_below h.map (hb.block _ h.lt), Nat.lt_of_lt_of_le h.lt hb.size, by obtain ⟨m, hm⟩ := h.max; exact ⟨m, by rw [hb.cell (p := ⟨2, 0, none⟩) h.size]; exact hm⟩, Nat.lt_of_lt_of_le h.size hb.size⟩
theorem zero31 (w : World) : (zeroValue 31).run Tryz.prog w = .ok (VV 0 0 nul) w := by
  have h : (Tryz.prog.info? 31).map (fun i => (i.zero, i.size, i.bytes)) = some (some (VV 0 0 nul), 3, 32) := by kernel_rfl
  obtain ⟨i0, hi, hz0, -, -⟩ := info_parts h
  simp [zeroValue, typeInfo, hi, hz0]
/-- The contract of a node. -/
abbrev Wo (w : World) (mb : Nat) (v : Value) (k m : Int) (s : ByteArray) : Prop := ∀ w1, Below w.heap.size w w1 → Calls Tryz.prog 29 #[.map (some mb), v] w1 fun e w' => e = .returned (VV k m s) ∧ Below w1.heap.size w1 w'
theorem wo_ev {f : Value → Option Value} {t : fm.T} {k m : Int} {s : ByteArray} (h : Ev f t k m s) : ∀ (w : World) (P : Nat → Prop) (v : Value) (mb : Nat), fm.Nd w P v t → EvW w mb f → Wo w mb v k m s := by
  induction h with
  | num => intro w P v mb hN hE w1 hb; cases hN with | mk hk hl hs => exact wo_num _ _ _ _ _ _
  | text => intro w P v mb hN hE w1 hb; cases hN with | mk hk hl hs => exact wo_text _ _ _ _ _ _
  | @ref r k m s h =>
    intro w P v mb hN hE w1 hb
    cases hN with | mk hk hl hs =>
    refine wo_ref _ r _ _ _ k m s w1 (fun wx hx => ?_)
    have hE' := (hE.next hb).next hx
    obtain ⟨l, hl⟩ : ∃ l, keyOf Tryz.prog 23 (.agg #[.int .i64 r.c, .int .i64 r.r]) = some l := by
      obtain ⟨es, clock, -, h2, -, h4, -⟩ := hE'.map
      obtain ⟨e0, he0, hek⟩ := h4 _ _ h
      obtain ⟨l, hl⟩ := h2 e0 he0
      rw [hek] at hl
      exact ⟨l, hl⟩
    have := (mp.cm_lookup (et := 31) (mt := 68) key23 under68 (zero31 wx) hE'.map hl).1
    rw [h] at this
    exact this
  | @cat a b s t ha hb hl iha ihb =>
    intro w P v mb hN hE w1 hbw
    cases hN with | @mk k n s' r t' p q c us ts hk hlen hs =>
    obtain ⟨g, o, u0, t0, rfl, hg, hu0, ht0, hc0⟩ := fm.kid_at hk hlen hs 0 (by have := hk.1; simp at hlen; omega)
    obtain ⟨g', o', u1, t1, he, hg', hu1, ht1, hc1⟩ := fm.kid_at hk hlen hs 1 (by have := hk.1; simp at hlen; omega)
    have he' : g' = g ∧ o' = o := by simp at he; exact ⟨he.1.symm, he.2.symm⟩
    obtain ⟨rfl, rfl⟩ := he'
    simp at ht0 ht1
    subst ht0 ht1
    have hN0 := hs 0 u0 a hu0 rfl
    have hN1 := hs 1 u1 b hu1 rfl
    have W0 := iha w P u0 mb hN0 hE
    have W1 := ihb w P u1 mb hN1 hE
    have hq : q = 2 := by have := hk.1; simp at hlen; omega
    subst hq
    cases hN0 with | @mk k0 n0 s0 ra0 rb0 p0 m0 q0 us0 ts0 _ _ _ =>
    cases hN1 with | @mk k1 n1 s1 ra1 rb1 p1 m1 q1 us1 ts1 _ _ _ =>
    refine wo_two (some mb) _ _ c s t hl w1 (Nat.lt_of_lt_of_le hg hbw.size) (fun jj x hx => ?_) (fun jj x hx => ?_) (fun wx hx => W0 wx (bnext hbw hx hbw.size)) (fun wx hx => W1 wx (bnext hbw hx hbw.size))
    · rw [hbw.cell (p := ⟨_, _, none⟩) hg]; have := hc0 jj x hx; simpa using this
    · rw [hbw.cell (p := ⟨_, _, none⟩) hg]; have := hc1 jj x hx; simpa using this
  | @len a s ha iha =>
    intro w P v mb hN hE w1 hbw
    cases hN with | @mk k n' s' r t' p q cc us ts hk hlen hs =>
    have hq : q = 1 := by have := hk.1; simp at hlen; omega
    subst hq
    refine named mb ⟨#[76, 69, 78]⟩ ⟨#[116]⟩ 184 hk hlen hs (by omega) rfl (fun _ => 2) (fun _ => 0) (fun _ => s) (fun i h => by
      match i, h with
      | 0, _ => exact .inl rfl) (fun i h => by
      match i, h with
      | 0, _ => exact ⟨fun q => by first | rfl | (cases q), fun q => by first | rfl | (cases q)⟩) functionOf_len (enters Tryz.func184 (by kernel_rfl) (by kernel_rfl)) (fun i u hu => by
      have hi : i < 1 := by have := (List.getElem?_eq_some_iff.1 hu).1; simp at hlen; omega
      match i, hi, hu with
      | 0, _, hu => exact iha w P u mb (hs 0 u _ hu rfl) hE) _ _ _ w1 hbw (fun wx A cs h1 h2 h3 => ?_)
    exact lenA s wx A cs h1 ((h2 0 (by decide)).2 rfl) _ _ _ (fun wy _ => number_any _ wy)
  | @left a b s n ha hb hn hsz iha ihb =>
    intro w P v mb hN hE w1 hbw
    cases hN with | @mk k n' s' r t' p q cc us ts hk hlen hs =>
    have hq : q = 2 := by have := hk.1; simp at hlen; omega
    subst hq
    refine named mb ⟨#[76, 69, 70, 84]⟩ ⟨#[116, 110]⟩ 185 hk hlen hs (by omega) rfl (fun i => match i with | 0 => 2 | _ => 1) (fun i => match i with | 0 => 0 | _ => n) (fun i => match i with | 0 => s | _ => nul) (fun i h => by
      match i, h with
      | 0, _ => exact .inl rfl
      | 1, _ => exact .inr rfl) (fun i h => by
      match i, h with
      | 0, _ => exact ⟨fun q => by first | rfl | (cases q), fun q => by first | rfl | (cases q)⟩
      | 1, _ => exact ⟨fun q => by first | rfl | (cases q), fun q => by first | rfl | (cases q)⟩) functionOf_left (enters Tryz.func185 (by kernel_rfl) (by kernel_rfl)) (fun i u hu => by
      have hi : i < 2 := by have := (List.getElem?_eq_some_iff.1 hu).1; simp at hlen; omega
      match i, hi, hu with
      | 0, _, hu => exact iha w P u mb (hs 0 u _ hu rfl) hE
      | 1, _, hu => exact ihb w P u mb (hs 1 u _ hu rfl) hE) _ _ _ w1 hbw (fun wx A cs h1 h2 h3 => ?_)
    exact leftA s n wx A cs h1 ((h2 0 (by decide)).2 rfl) ((h2 1 (by decide)).1 rfl) _ _ _ (fun wy _ => middle_any s 1 n wy (by omega) hn (by omega) (by omega))
  | @right a b s n ha hb hn hsz iha ihb =>
    intro w P v mb hN hE w1 hbw
    cases hN with | @mk k n' s' r t' p q cc us ts hk hlen hs =>
    have hq : q = 2 := by have := hk.1; simp at hlen; omega
    subst hq
    refine named mb ⟨#[82, 73, 71, 72, 84]⟩ ⟨#[116, 110]⟩ 187 hk hlen hs (by omega) rfl (fun i => match i with | 0 => 2 | _ => 1) (fun i => match i with | 0 => 0 | _ => n) (fun i => match i with | 0 => s | _ => nul) (fun i h => by
      match i, h with
      | 0, _ => exact .inl rfl
      | 1, _ => exact .inr rfl) (fun i h => by
      match i, h with
      | 0, _ => exact ⟨fun q => by first | rfl | (cases q), fun q => by first | rfl | (cases q)⟩
      | 1, _ => exact ⟨fun q => by first | rfl | (cases q), fun q => by first | rfl | (cases q)⟩) functionOf_right (enters Tryz.func187 (by kernel_rfl) (by kernel_rfl)) (fun i u hu => by
      have hi : i < 2 := by have := (List.getElem?_eq_some_iff.1 hu).1; simp at hlen; omega
      match i, hi, hu with
      | 0, _, hu => exact iha w P u mb (hs 0 u _ hu rfl) hE
      | 1, _, hu => exact ihb w P u mb (hs 1 u _ hu rfl) hE) _ _ _ w1 hbw (fun wx A cs h1 h2 h3 => ?_)
    exact rightA s n wx A cs h1 ((h2 0 (by decide)).2 rfl) ((h2 1 (by decide)).1 rfl) _ _ _ (fun wy _ => right_any s n wy hn (by omega))
  | @mid a b c s i0 n ha hb hc hi hi2 hn hsz iha ihb ihc =>
    intro w P v mb hN hE w1 hbw
    cases hN with | @mk k n' s' r t' p q cc us ts hk hlen hs =>
    have hq : q = 3 := by have := hk.1; simp at hlen; omega
    subst hq
    refine named mb ⟨#[77, 73, 68]⟩ ⟨#[116, 110, 110]⟩ 189 hk hlen hs (by omega) rfl (fun i => match i with | 0 => 2 | 1 => 1 | _ => 1) (fun i => match i with | 0 => 0 | 1 => i0 | _ => n) (fun i => match i with | 0 => s | 1 => nul | _ => nul) (fun i h => by
      match i, h with
      | 0, _ => exact .inl rfl
      | 1, _ => exact .inr rfl
      | 2, _ => exact .inr rfl) (fun i h => by
      match i, h with
      | 0, _ => exact ⟨fun q => by first | rfl | (cases q), fun q => by first | rfl | (cases q)⟩
      | 1, _ => exact ⟨fun q => by first | rfl | (cases q), fun q => by first | rfl | (cases q)⟩
      | 2, _ => exact ⟨fun q => by first | rfl | (cases q), fun q => by first | rfl | (cases q)⟩) functionOf_mid (enters Tryz.func189 (by kernel_rfl) (by kernel_rfl)) (fun i u hu => by
      have hi : i < 3 := by have := (List.getElem?_eq_some_iff.1 hu).1; simp at hlen; omega
      match i, hi, hu with
      | 0, _, hu => exact iha w P u mb (hs 0 u _ hu rfl) hE
      | 1, _, hu => exact ihb w P u mb (hs 1 u _ hu rfl) hE
      | 2, _, hu => exact ihc w P u mb (hs 2 u _ hu rfl) hE) _ _ _ w1 hbw (fun wx A cs h1 h2 h3 => ?_)
    exact midA s i0 n wx A cs h1 ((h2 0 (by decide)).2 rfl) ((h2 1 (by decide)).1 rfl) ((h2 2 (by decide)).1 rfl) _ _ _ (fun wy _ => middle_any s i0 n wy hi hn hi2 (by omega))
  | @find a b p0 s j ha hb hsz hj h0 h1j iha ihb =>
    intro w P v mb hN hE w1 hbw
    cases hN with | @mk k n' s' r t' p q cc us ts hk hlen hs =>
    have hq : q = 2 := by have := hk.1; simp at hlen; omega
    subst hq
    refine named mb ⟨#[70, 73, 78, 68]⟩ ⟨#[116, 116]⟩ 193 hk hlen hs (by omega) rfl (fun i => match i with | 0 => 2 | _ => 2) (fun i => match i with | 0 => 0 | _ => 0) (fun i => match i with | 0 => p0 | _ => s) (fun i h => by
      match i, h with
      | 0, _ => exact .inl rfl
      | 1, _ => exact .inl rfl) (fun i h => by
      match i, h with
      | 0, _ => exact ⟨fun q => by first | rfl | (cases q), fun q => by first | rfl | (cases q)⟩
      | 1, _ => exact ⟨fun q => by first | rfl | (cases q), fun q => by first | rfl | (cases q)⟩) functionOf_find (enters Tryz.func193 (by kernel_rfl) (by kernel_rfl)) (fun i u hu => by
      have hi : i < 2 := by have := (List.getElem?_eq_some_iff.1 hu).1; simp at hlen; omega
      match i, hi, hu with
      | 0, _, hu => exact iha w P u mb (hs 0 u _ hu rfl) hE
      | 1, _, hu => exact ihb w P u mb (hs 1 u _ hu rfl) hE) _ _ _ w1 hbw (fun wx A cs h1 h2 h3 => ?_)
    refine findA p0 s wx A cs h1 ((h2 0 (by decide)).2 rfl) ((h2 1 (by decide)).2 rfl) _ _ _ (fun wy hy => ?_)
    obtain ⟨mm, hmm⟩ := (((hE.next hbw).next h3).next hy).max
    exact find_at p0 s mm wy (by omega) hmm j hj h0 (by omega)
  | @exact a b s ha hb iha ihb =>
    intro w P v mb hN hE w1 hbw
    cases hN with | @mk k n' s' r t' p q cc us ts hk hlen hs =>
    have hq : q = 2 := by have := hk.1; simp at hlen; omega
    subst hq
    refine named mb ⟨#[69, 88, 65, 67, 84]⟩ ⟨#[116, 116]⟩ 197 hk hlen hs (by omega) rfl (fun i => match i with | 0 => 2 | _ => 2) (fun i => match i with | 0 => 0 | _ => 0) (fun i => match i with | 0 => s | _ => s) (fun i h => by
      match i, h with
      | 0, _ => exact .inl rfl
      | 1, _ => exact .inl rfl) (fun i h => by
      match i, h with
      | 0, _ => exact ⟨fun q => by first | rfl | (cases q), fun q => by first | rfl | (cases q)⟩
      | 1, _ => exact ⟨fun q => by first | rfl | (cases q), fun q => by first | rfl | (cases q)⟩) functionOf_exact (enters Tryz.func197 (by kernel_rfl) (by kernel_rfl)) (fun i u hu => by
      have hi : i < 2 := by have := (List.getElem?_eq_some_iff.1 hu).1; simp at hlen; omega
      match i, hi, hu with
      | 0, _, hu => exact iha w P u mb (hs 0 u _ hu rfl) hE
      | 1, _, hu => exact ihb w P u mb (hs 1 u _ hu rfl) hE) _ _ _ w1 hbw (fun wx A cs h1 h2 h3 => ?_)
    exact exactA s wx A cs h1 ((h2 0 (by decide)).2 rfl) ((h2 1 (by decide)).2 rfl) _ _ _ (fun wy _ => truth_any true wy)
end Go.Proofs.YtoaejcppfmjhdaaGreatDoor.ev
