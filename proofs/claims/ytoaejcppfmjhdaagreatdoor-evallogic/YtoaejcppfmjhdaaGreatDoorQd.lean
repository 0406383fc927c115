/- Package eval: Eval as a whole, of any node of which it is known what it comes to; a column of values. Conditions: the package variables as the program's text lays them; of the rest as each theorem says. -/
import Derived.Test.YtoaejcppfmjhdaaGreatDoorEw
import Derived.Test.YtoaejcppfmjhdaaGreatDoorLy
import Derived.Deep.RegionHeldLaw
import Derived.Deep.AppendLies
import Derived.Test.YtoaejcppfmjhdaaGreatDoorQc
namespace Go.Proofs.YtoaejcppfmjhdaaGreatDoor.ev
open Go.RowKit
open fm (N12 ink)
/-- A look into the map of values. -/
theorem look_of {w wx : World} {mb : Nat} {f : Value → Option Value} (hE : EvW w mb f) (hb : Below w.heap.size w wx) {key v : Value} (h : f key = some v) : (Instr.lookup 68 (.map (some mb)) key false).run Tryz.prog wx = .ok v wx := by
  have hE' := hE.next hb
  obtain ⟨l, hl⟩ : ∃ l, keyOf Tryz.prog 23 key = some l := by
    obtain ⟨es, clock, -, h2, -, h4, -⟩ := hE'.map
    obtain ⟨e0, he0, hek⟩ := h4 _ _ h
    obtain ⟨l, hl⟩ := h2 e0 he0
    rw [hek] at hl
    exact ⟨l, hl⟩
  have := (mp.cm_lookup (et := 31) (mt := 68) key23 under68 (zero31 wx) hE'.map hl).1
  rw [h] at this
  exact this
set_option maxRecDepth 100000 in
set_option maxHeartbeats 4000000 in
theorem eval_gen {k n : Int} {s : ByteArray} {r t : fm.Rf} {p : Option Addr} {q c : Nat} {T0 : fm.T} (w : World) (hE : fm.EnvW w) (hN : In w (fm.NV k n s r t (.slice p q c)) T0) (hO : fm.Ok T0) (hC : fm.Ckd T0)
    (pl : Option Addr) (cl : Nat) (xs : List Sh) (hx : ShL w pl xs) (hok : ShOk xs) (hlen : xs.length ≤ 1000) {kr mr : Int} {zr : ByteArray} (hV : ∀ (w : World) (P : Nat → Prop) (v : Value) (mb : Nat), fm.Nd w P v T0 → EvW w mb (vals xs fun _ => none) → fm.EnvW w → Wo w mb v kr mr zr) :
    Calls Tryz.prog 9 #[fm.NV k n s r t (.slice p q c), .slice pl xs.length cl] w fun e w' => e = .returned (.tuple #[VV kr mr zr, .nilIface]) ∧ Below w.heap.size w w' := by
  have HCK : Hid (∀ wx, Below w.heap.size w wx → Calls Tryz.prog 27 #[fm.NV k n s r t (.slice p q c)] wx fun e w' => e = .returned .nilIface ∧ Below wx.heap.size wx w') := fun wx hb => by
    exact fm.check_yes wx (hE.next hb) (fun _ h => h) (hN.next hb) hO hC
  have HSH : Hid (∀ wx, Below w.heap.size w wx → Calls Tryz.prog 28 #[.slice pl xs.length cl] wx fun e w' => ∃ mb, e = .returned (.tuple #[.map (some mb), .nilIface]) ∧ mp.CM Tryz.prog 23 w' mb (vals xs fun _ => none) ∧ mb < w'.heap.size ∧ Below wx.heap.size wx w') := fun wx hb => by
    refine (sheetOf_any pl cl xs wx (hx.next hb) hok (by omega)).mono ?_
    rintro e w' ⟨rfl, h1, h2, h3⟩
    exact ⟨_, rfl, h1, h2, h3⟩
  have HWO : Hid (∀ wx mb, Below w.heap.size w wx → mp.CM Tryz.prog 23 wx mb (vals xs fun _ => none) → mb < wx.heap.size → Calls Tryz.prog 29 #[.map (some mb), fm.NV k n s r t (.slice p q c)] wx fun e w' => e = .returned (VV kr mr zr) ∧ Below wx.heap.size wx w') := fun wx mb hb hm hl => by
    have hE' := hE.next hb
    exact hV wx _ _ mb (hN.next hb) ⟨hm, hl, hE'.m, by have := hE'.lt; omega⟩ hE' wx (Below.refl _ _)
  obtain ⟨hA, hR⟩ := two_new w (.cells (N12 k n s r t (.slice p q c)) 28) (.cells #[.int .i64 0, .int .i64 0, .string nul] 31)
  have hbW : Below w.heap.size w ((w.alloc (.cells (N12 k n s r t (.slice p q c)) 28)).alloc (.cells #[.int .i64 0, .int .i64 0, .string nul] 31)) := ((Below.refl _ _).alloc (Nat.le_refl _) _).alloc (by simp) _
  obtain ⟨⟨a0, a1, a2, a3, a4, a5, a6, a7, a8, a9, a10, a11⟩, -⟩ := fm.cells12 hA
  have HR : Hid (∀ wx, Below ((w.alloc (.cells (N12 k n s r t (.slice p q c)) 28)).alloc (.cells #[.int .i64 0, .int .i64 0, .string nul] 31)).heap.size ((w.alloc (.cells (N12 k n s r t (.slice p q c)) 28)).alloc (.cells #[.int .i64 0, .int .i64 0, .string nul] 31)) wx → wx.heap[w.heap.size]? = some (.cells (N12 k n s r t (.slice p q c)) 28 (0, 0)) ∧ wx.heap[w.heap.size + 1]? = some (.cells #[.int .i64 0, .int .i64 0, .string nul] 31 (0, 0)) ∧ Below w.heap.size w wx) := fun wx h => ⟨(h.block _ (fm.lt_blk hA)).trans hA, (h.block _ (fm.lt_blk hR)).trans hR, bnext hbW h hbW.size⟩
  have HB0 : Hid (Below w.heap.size w ((w.alloc (.cells (N12 k n s r t (.slice p q c)) 28)).alloc (.cells #[.int .i64 0, .int .i64 0, .string nul] 31))) := hbW
  clear hA hR hbW hE hN hO hC hx hok hlen hV
  go_enter Tryz.func9, Tryz.ntmps9
  go_wp2_with fail
  refine (HCK.out _ HB0.out).mono ?_
  clear a0 a1 a2 a3 a4 a5 a6 a7 a8 a9 a10 a11
  rintro e w1 ⟨rfl, hb1⟩
  have HB1 : Hid (Below ((w.alloc (.cells (N12 k n s r t (.slice p q c)) 28)).alloc (.cells #[.int .i64 0, .int .i64 0, .string nul] 31)).heap.size ((w.alloc (.cells (N12 k n s r t (.slice p q c)) 28)).alloc (.cells #[.int .i64 0, .int .i64 0, .string nul] 31)) w1) := hb1
  clear hb1
  go_wp2_with fail
  refine (HSH.out _ (HR.out _ HB1.out).2.2).mono ?_
  rintro e w2 ⟨mb, rfl, hm, hlt, hb2⟩
  have HM : Hid (mp.CM Tryz.prog 23 w2 mb (vals xs fun _ => none) ∧ mb < w2.heap.size) := ⟨hm, hlt⟩
  have HB2 : Hid (Below ((w.alloc (.cells (N12 k n s r t (.slice p q c)) 28)).alloc (.cells #[.int .i64 0, .int .i64 0, .string nul] 31)).heap.size ((w.alloc (.cells (N12 k n s r t (.slice p q c)) 28)).alloc (.cells #[.int .i64 0, .int .i64 0, .string nul] 31)) w2) := bnext HB1.out hb2 HB1.out.size
  obtain ⟨⟨a0, a1, a2, a3, a4, a5, a6, a7, a8, a9, a10, a11⟩, -⟩ := fm.cells12 (HR.out _ HB2.out).1
  clear hm hlt hb2 HB1
  go_wp2_with fail
  refine (HWO.out _ mb (HR.out _ HB2.out).2.2 HM.out.1 HM.out.2).mono ?_
  clear a0 a1 a2 a3 a4 a5 a6 a7 a8 a9 a10 a11
  rintro e w3 ⟨rfl, hb3⟩
  obtain ⟨-, hq1, hb4⟩ := HR.out w3 (bnext HB2.out hb3 HB2.out.size)
  have HB : Hid (Below w.heap.size w w3) := hb4
  obtain ⟨c0, c1, c2⟩ := cells3v hq1
  have f0 : ∀ o, w3.frozen? ⟨w.heap.size + 1, o, none⟩ = false := frz hq1
  have HQ1 : Hid (w3.heap[w.heap.size + 1]? = some (.cells #[.int .i64 0, .int .i64 0, .string nul] 31 (0, 0))) := hq1
  clear hq1 hb3 hb4 HR HB2 HM HWO HSH HCK HB0
  go_wp2_with fail
  refine fin3 HQ1.out (Q := bodyPost _ _ _ _ _) ?_
  clear c0 c1 c2 f0
  intro w4 hq4 hk4
  obtain ⟨d0, d1, d2⟩ := cells3v hq4
  exact bodyPost_ret (v := .tuple #[VV kr mr zr, .nilIface]) (by simp [results, Tryz.results9, go_sem, d0, d1, d2]) rfl ⟨rfl, HB.out.trans (hk4 _ (by omega))⟩
set_option maxRecDepth 100000 in
set_option maxHeartbeats 4000000 in
theorem works_gen {k n : Int} {s : ByteArray} {r t : fm.Rf} {p : Option Addr} {q c : Nat} {T0 : fm.T} (w : World) (hE : fm.EnvW w) (hN : In w (fm.NV k n s r t (.slice p q c)) T0) (hO : fm.Ok T0) (hC : fm.Ckd T0)
    (pl : Option Addr) (cl : Nat) (xs : List Sh) (hx : ShL w pl xs) (hok : ShOk xs) (hlen : xs.length ≤ 1000) {kr mr : Int} {zr : ByteArray} (hV : ∀ (w : World) (P : Nat → Prop) (v : Value) (mb : Nat), fm.Nd w P v T0 → EvW w mb (vals xs fun _ => none) → fm.EnvW w → Wo w mb v kr mr zr) :
    Calls Tryz.prog 14 #[fm.NV k n s r t (.slice p q c), .slice pl xs.length cl] w fun e w' => e = .returned (.tuple #[VV kr mr zr, .bool true]) ∧ Below w.heap.size w w' := by
  have HEV : Hid (∀ wx, Below w.heap.size w wx → Calls Tryz.prog 9 #[fm.NV k n s r t (.slice p q c), .slice pl xs.length cl] wx fun e w' => e = .returned (.tuple #[VV kr mr zr, .nilIface]) ∧ Below wx.heap.size wx w') := fun wx hb =>
    eval_gen wx (hE.next hb) (hN.next hb) hO hC pl cl xs (hx.next hb) hok hlen hV
  obtain ⟨hA, hR⟩ := two_new w (.cells (N12 k n s r t (.slice p q c)) 28) (.cells #[.int .i64 0, .int .i64 0, .string nul] 31)
  have hbW : Below w.heap.size w ((w.alloc (.cells (N12 k n s r t (.slice p q c)) 28)).alloc (.cells #[.int .i64 0, .int .i64 0, .string nul] 31)) := ((Below.refl _ _).alloc (Nat.le_refl _) _).alloc (by simp) _
  obtain ⟨⟨a0, a1, a2, a3, a4, a5, a6, a7, a8, a9, a10, a11⟩, -⟩ := fm.cells12 hA
  have HR : Hid (∀ wx, Below ((w.alloc (.cells (N12 k n s r t (.slice p q c)) 28)).alloc (.cells #[.int .i64 0, .int .i64 0, .string nul] 31)).heap.size ((w.alloc (.cells (N12 k n s r t (.slice p q c)) 28)).alloc (.cells #[.int .i64 0, .int .i64 0, .string nul] 31)) wx → wx.heap[w.heap.size + 1]? = some (.cells #[.int .i64 0, .int .i64 0, .string nul] 31 (0, 0)) ∧ Below w.heap.size w wx) := fun wx h => ⟨(h.block _ (fm.lt_blk hR)).trans hR, bnext hbW h hbW.size⟩
  have HB0 : Hid (Below w.heap.size w ((w.alloc (.cells (N12 k n s r t (.slice p q c)) 28)).alloc (.cells #[.int .i64 0, .int .i64 0, .string nul] 31))) := hbW
  clear hA hR hbW hE hN hO hC hx hok hlen hV
  go_enter Tryz.func14, Tryz.ntmps14
  go_wp2_with fail
  refine (HEV.out _ HB0.out).mono ?_
  clear a0 a1 a2 a3 a4 a5 a6 a7 a8 a9 a10 a11
  rintro e w1 ⟨rfl, hb1⟩
  obtain ⟨V1, hV1⟩ : ∃ V1, V1 = w1.alloc (.cells #[.int .i64 kr, .int .i64 mr, .string zr] 31) := ⟨_, rfl⟩
  have hbv : Below w1.heap.size w1 V1 := by rw [hV1]; exact (Below.refl _ _).alloc (Nat.le_refl _) _
  obtain ⟨hq1, hb4⟩ := HR.out V1 (bnext hb1 hbv hb1.size)
  have hv0 : V1.heap[w1.heap.size]? = some (.cells #[.int .i64 kr, .int .i64 mr, .string zr] 31 (0, 0)) := by rw [hV1]; exact heap_alloc_new _ _
  have HB : Hid (Below w.heap.size w V1) := hb4
  obtain ⟨v0, v1, v2⟩ := cells3v hv0
  obtain ⟨c0, c1, c2⟩ := cells3v hq1
  have f0 : ∀ o, V1.frozen? ⟨w.heap.size + 1, o, none⟩ = false := frz hq1
  have HQ1 : Hid (V1.heap[w.heap.size + 1]? = some (.cells #[.int .i64 0, .int .i64 0, .string nul] 31 (0, 0))) := hq1
  have HVV : Hid (w1.alloc (.cells #[.int .i64 kr, .int .i64 mr, .string zr] 31) = V1) := hV1.symm
  rw [hV1] at v0 v1 v2 c0 c1 c2 f0
  clear hq1 hb1 hb4 hbv hv0 HR HEV HB0 hV1
  go_wp2_with fail
  go_region
  all_goals
    go_wp2_with fail
    rw [HVV.out] at *
    refine fin3 (w := World.drew V1) (t := 31) HQ1.out (Q := bodyPost _ _ _ _ _) ?_
    clear c0 c1 c2 f0
    intro w4 hq4 hk4
    obtain ⟨d0, d1, d2⟩ := cells3v hq4
    exact bodyPost_ret (v := .tuple #[VV kr mr zr, .bool true]) (by simp [results, Tryz.results14, go_sem, d0, d1, d2]) rfl ⟨rfl, HB.out.drew.trans (hk4 _ (by omega))⟩
/-- A list of values that was handed in. -/
def VM (w : World) (p : Option Addr) (q : Nat) (k m : Nat → Int) (z : Nat → ByteArray) : Prop :=
  q = 0 ∨ ∃ g o, p = some ⟨g, o, none⟩ ∧ g < w.heap.size ∧ ∀ i, i < q → w.cell? ⟨g, o + i * 3, none⟩ = some (.int .i64 (k i)) ∧ w.cell? ⟨g, o + i * 3 + 1, none⟩ = some (.int .i64 (m i)) ∧ w.cell? ⟨g, o + i * 3 + 2, none⟩ = some (.string (z i))
theorem VM.next {w w' : World} {p : Option Addr} {q : Nat} {k m : Nat → Int} {z : Nat → ByteArray} (h : VM w p q k m z) (hb : Below w.heap.size w w') : VM w' p q k m z := by
  rcases h with h | ⟨g, o, h1, h2, h3⟩
  · exact .inl h
  · refine .inr ⟨g, o, h1, Nat.lt_of_lt_of_le h2 hb.size, fun i hi => ?_⟩
    rw [hb.cell (p := ⟨g, _, none⟩) h2, hb.cell (p := ⟨g, _, none⟩) h2, hb.cell (p := ⟨g, _, none⟩) h2]
    exact h3 i hi
/-- Are all of the first so many values? -/
def allV (k m : Nat → Int) (z : Nat → ByteArray) : Nat → Bool
  | 0 => true
  | n + 1 => allV k m z n && vv.isVal (k n) (m n) (z n)
theorem allV_at {k m : Nat → Int} {z : Nat → ByteArray} {n : Nat} (h : allV k m z n = true) : ∀ i, i < n → vv.isVal (k i) (m i) (z i) = true := by
  induction n with
  | zero => intro i hi; omega
  | succ n ih =>
    unfold allV at h
    rw [Bool.and_eq_true] at h
    intro i hi
    by_cases e : i = n
    · subst e; exact h.2
    · exact ih h.1 i (by omega)
theorem allV_of {k m : Nat → Int} {z : Nat → ByteArray} {n : Nat} (h : ∀ i, i < n → vv.isVal (k i) (m i) (z i) = true) : allV k m z n = true := by
  induction n with
  | zero => rfl
  | succ n ih =>
    unfold allV
    rw [ih (fun i hi => h i (by omega)), h n (by omega)]
    rfl
/-- The cells of a column that is shown, as memory has them. -/
def colL (k m : Nat → Int) (z : Nat → ByteArray) : Nat → List Value
  | 0 => []
  | n + 1 => colL k m z n ++ [.int .i64 1, .int .i64 ((n : Int) + 1), .int .i64 (k n), .int .i64 (m n), .string (z n), .int .i64 0, .int .i64 0]
theorem own40 {w : World} {base n : Nat} {v : Value} {xs : List Value} (h : w.ownsRow base 40 7 v n xs) {w' : World} (hb : Below w.heap.size w w') : w'.ownsRow base 40 7 v n xs := by
  obtain ⟨h0, h | ⟨g, cap, cur, h1, h2, h3, h4⟩⟩ := h
  · exact ⟨h0, Or.inl h⟩
  · exact ⟨h0, Or.inr ⟨g, cap, cur, h1, h2, by rw [hb.block g (fm.lt_blk h3)]; exact h3, h4⟩⟩
abbrev Z7 : Array Value := #[.int .i64 0, .int .i64 0, .int .i64 0, .int .i64 0, .string nul, .int .i64 0, .int .i64 0]
theorem info40 : (Tryz.prog.info? 40).map (fun i => (i.zero, i.size, i.bytes)) = some (some (.agg Z7), 7, 64) := by kernel_rfl
set_option maxRecDepth 100000 in
set_option maxHeartbeats 4000000 in
theorem values_law (p : Option Addr) (q c : Nat) (hq : q ≤ 9223372036854775807) (k m : Nat → Int) (z : Nat → ByteArray) (w : World) (hv : VM w p q k m z) :
    Calls Tryz.prog 16 #[.slice p q c, .int .i64 8] w fun e w' => e = .returned (.bool (decide (1 ≤ q) && decide (q ≤ 8) && allV k m z q)) ∧ Below w.heap.size w w' := by
  have HV : Hid (VM w p q k m z) := hv
  clear hv
  by_cases h8 : 8 < (q : Int)
  · rw [show (decide (1 ≤ q) && decide (q ≤ 8) && allV k m z q) = false from by rw [decide_eq_false (by omega : ¬ q ≤ 8)]; simp]
    go_enter Tryz.func16, Tryz.ntmps16
    go_wp2_with fail
    go_ret
    exact ⟨rfl, Below.refl _ _⟩
  by_cases h0 : q = 0
  · subst h0
    go_enter Tryz.func16, Tryz.ntmps16
    go_wp2_with fail
    go_ret
    exact ⟨rfl, Below.refl _ _⟩
  obtain ⟨A, hA⟩ : ∃ A, allV k m z q = A := ⟨_, rfl⟩
  have HA : Hid (allV k m z q = A) := hA
  rw [show (decide (1 ≤ q) && decide (q ≤ 8) && allV k m z q) = A from by rw [decide_eq_true (by omega : 1 ≤ q), decide_eq_true (by omega : q ≤ 8), hA]; rfl]
  clear hA
  have hq0 : ¬ (q : Int) = 0 := by omega
  have HI : Hid (∀ a b c wx, Calls Tryz.prog 11 #[VV a b c] wx fun e w' => e = .returned (.bool (vv.isVal a b c)) ∧ Below wx.heap.size wx w') := fun a b c wx => vv.is_any a b c wx
  go_enter Tryz.func16, Tryz.ntmps16
  go_wp2_with fail
  go_loopw [5] (fun i wr => ∃ j : Nat, i = .int .i64 j ∧ j ≤ q ∧ Below w.heap.size w wr ∧ ∀ i, i < j → vv.isVal (k i) (m i) (z i) = true) (fun i _ => q - (intOf i).toNat)
  case atStart => exact ⟨0, rfl, Nat.zero_le _, Below.refl _ _, fun i hi => absurd hi (Nat.not_lt_zero _)⟩
  case round =>
    obtain ⟨j, rfl, hj, hbr, hd⟩ := hrel
    have HB : Hid (Below w.heap.size w wr) := hbr
    have HD : Hid (∀ i, i < j → vv.isVal (k i) (m i) (z i) = true) := hd
    clear hbr hd
    by_cases hlt : j < q
    · have hlt' : (j : Int) < (q : Int) := by omega
      have hj0 : (0 : Int) ≤ (j : Int) := by omega
      rcases HV.out.next HB.out with h | ⟨g, o, rfl, hg, h3⟩
      · omega
      obtain ⟨y0, y1, y2⟩ := h3 j hlt
      clear h3
      have HW := HI.out (k j) (m j) (z j) wr
      cases hb : vv.isVal (k j) (m j) (z j) with
      | true =>
        have HE : Hid (vv.isVal (k j) (m j) (z j) = true) := hb
        rw [hb] at HW
        clear hb
        go_wp2_with fail
        refine HW.mono ?_
        clear y0 y1 y2
        rintro e w1 ⟨rfl, hb1⟩
        have HB1 : Hid (Below w.heap.size w w1) := bnext HB.out hb1 HB.out.size
        clear hb1 HB
        go_wp2_with fail
        exact ⟨⟨j + 1, by simp, hlt, HB1.out, fun i hi => by
          by_cases e : i = j
          · subst e; exact HE.out
          · exact HD.out i (by omega)⟩, by simp [intOf]; omega⟩
      | false =>
        have HE : Hid (A = false) := by
          unfold Hid
          rw [← HA.out]
          cases h : allV k m z q with
          | false => rfl
          | true => have := allV_at h j hlt; rw [hb] at this; cases this
        rw [hb] at HW
        clear hb
        go_wp2_with fail
        refine HW.mono ?_
        clear y0 y1 y2
        rintro e w1 ⟨rfl, hb1⟩
        have HB1 : Hid (Below w.heap.size w w1) := bnext HB.out hb1 HB.out.size
        clear hb1 HB
        go_wp2_with fail
        go_ret
        exact ⟨by rw [HE.out]; rfl, HB1.out⟩
    · have hkn : q = j := by omega
      subst hkn
      go_wp2_with fail
      go_ret
      exact ⟨by rw [← HA.out, allV_of HD.out]; rfl, HB.out⟩
/-- A value in the list that was handed in, opened. -/
abbrev CY (w : World) (g o j : Nat) (a b : Int) (c : ByteArray) (wx : World) : Prop := wx.cell? ⟨g, o + j * 3, none⟩ = some (.int .i64 a) ∧ wx.cell? ⟨g, o + j * 3 + 1, none⟩ = some (.int .i64 b) ∧ wx.cell? ⟨g, o + j * 3 + 2, none⟩ = some (.string c) ∧ Below w.heap.size w wx
theorem cyb {w : World} {g o j : Nat} {a b : Int} {c : ByteArray} {wx : World} (h : CY w g o j a b c wx) : Below w.heap.size w wx := h.2.2.2
set_option maxRecDepth 100000 in
set_option maxHeartbeats 4000000 in
theorem column_law (p : Option Addr) (q c : Nat) (hq : q ≤ 90) (k m : Nat → Int) (z : Nat → ByteArray) (w : World) (hv : VM w p q k m z) :
    Calls Tryz.prog 17 #[.slice p q c] w fun e w' => (∃ v, e = .returned v ∧ w'.ownsRow w.heap.size 40 7 v q (colL k m z q)) ∧ Below w.heap.size w w' := by
  have HV : Hid (VM w p q k m z) := hv
  clear hv
  obtain ⟨i0, hi, hz0, hz1, hz2⟩ := info_parts info40
  have H19 : Hid (∀ c r wx, Calls Tryz.prog 19 #[.int .i64 c, .int .i64 r] wx fun e w' => e = .returned (.agg #[.int .i64 c, .int .i64 r]) ∧ Below wx.heap.size wx w') := lat
  go_enter Tryz.func17, Tryz.ntmps17
  go_wp2_with fail
  go_loopw [3, 4] (fun vl vi wr => ∃ j : Nat, vi = .int .i64 j ∧ j ≤ q ∧ wr.ownsRow w.heap.size 40 7 vl j (colL k m z j) ∧ Below w.heap.size w wr) (fun _ vi _ => q - (intOf vi).toNat)
  case atStart => exact ⟨0, rfl, Nat.zero_le _, ⟨rfl, .inl ⟨rfl, rfl⟩⟩, Below.refl _ _⟩
  case round =>
    obtain ⟨j, rfl, hj, hown, hbr⟩ := hrel
    by_cases hlt : j < q
    · have hlt' : (j : Int) < (q : Int) := by omega
      have hj0 : (0 : Int) ≤ (j : Int) := by omega
      have hj9 : (j : Int) ≤ 90 := by omega
      rcases HV.out with h | ⟨g, o, rfl, hg, h3⟩
      · omega
      have sof : ∀ wx, Below w.heap.size w wx → CY w g o j (k j) (m j) (z j) wx := fun wx hb => by
        obtain ⟨q0, q1, q2⟩ := h3 j hlt
        exact ⟨by rw [hb.cell (p := ⟨g, _, none⟩) hg]; exact q0, by rw [hb.cell (p := ⟨g, _, none⟩) hg]; exact q1, by rw [hb.cell (p := ⟨g, _, none⟩) hg]; exact q2, hb⟩
      have h0d := sof _ hbr.drew
      obtain ⟨y0, y1, y2, -⟩ := sof _ hbr
      have hod : wr.drew.ownsRow w.heap.size 40 7 u3 j (colL k m z j) := hown
      have hsz0 := hbr.size
      clear hown hbr h3
      go_upto_region 5 with fail
      go_region_held_law (fun wx => CY w g o j (k j) (m j) (z j) wx) (first | exact h0d | exact sof _ (bnext (cyb (by assumption)) (by assumption) (cyb (by assumption)).size) | exact sof _ (Below.alloc (cyb (by assumption)) (cyb (by assumption)).size _) | exact sof _ (by assumption)) (first | (go_at_call 19; refine (H19.out _ _ _).mono ?_; rintro e w1 ⟨rfl, hb1⟩; have hown1 := own40 hod hb1; have hB1 : Below w.heap.size w w1 := bnext (cyb h0d) hb1 (cyb h0d).size) | (refine step_append_lies _ rfl _ _ 29 rfl w.heap.size 40 i0 (.agg Z7) 7 64 Tryz.underlying29 hi hz0 hz1 hz2 rfl (by decide) u3 j (colL k m z j) rfl (hown1.alloc _) ⟨w1.heap.size, 0, none⟩ 1 1 [.int .i64 1, .int .i64 (IntKind.i64.wrap ((j : Int) + 1)), .int .i64 (k j), .int .i64 (m j), .string (z j), .int .i64 0, .int .i64 0] rfl rfl (World.news_of_block (heap_alloc_new w1 _)) (by simp [Value.oneCell']) (by decide) (by unfold maxLen; omega) (by omega) (by have := hB1.size; simp; omega) _ rfl ?_; intro g2 cap2 w3 hown3 hgrow hat hlt3; have hb3 : Below w.heap.size w w3 := (hB1.alloc hB1.size _).grown hgrow (by have := hB1.size; simp; omega) (fun q hq => (hown1.lt q hq).1)))
      all_goals
        rw [show IntKind.i64.wrap ((j : Int) + 1) = (j : Int) + 1 from by rw [IntKind.wrap_i64]; omega] at hown3
        have HO : Hid (w3.ownsRow w.heap.size 40 7 (.slice (some ⟨g2, 0, none⟩) (j + 1) cap2) (j + 1) (colL k m z (j + 1))) := hown3
        have HB : Hid (Below w.heap.size w w3) := hb3
        clear sof h0d y0 y1 y2 hod hown3 hb3 hgrow hat hlt3 hown1 hB1 hb1
        go_wp2_with fail
        exact ⟨⟨j + 1, by simp, hlt, HO.out, HB.out⟩, by simp [intOf]; omega⟩
    · have hkn : q = j := by omega
      subst hkn
      have HO : Hid (wr.ownsRow w.heap.size 40 7 u3 q (colL k m z q)) := hown
      have HB : Hid (Below w.heap.size w wr) := hbr
      clear hown hbr
      go_wp2_with fail
      go_ret
      exact ⟨⟨_, rfl, HO.out⟩, HB.out⟩
theorem ref_len (n : Nat) (h : n < 100) : (ink.ref ⟨1, (n : Int), false, false⟩).length ≤ 3 := by
  show (fm.dollar false ++ UInt8.ofNat (64 + (1 : Int).toNat) :: (fm.dollar false ++ Lib.decDigits (n : Int).toNat)).length ≤ 3
  have := adr.it_len (r := (n : Int).toNat) (by omega)
  simp [fm.dollar]
  simpa using this
/-- The column's cells. -/
def colS (k m : Nat → Int) (z : Nat → ByteArray) : Nat → List Sh
  | 0 => []
  | n + 1 => colS k m z n ++ [⟨1, (n : Int) + 1, k n, m n, z n⟩]
theorem colS_len (k m : Nat → Int) (z : Nat → ByteArray) (n : Nat) : (colS k m z n).length = n := by
  induction n with
  | zero => rfl
  | succ n ih => simp [colS, ih]
theorem colS_at {k m : Nat → Int} {z : Nat → ByteArray} {n i : Nat} {x : Sh} (h : (colS k m z n)[i]? = some x) : i < n ∧ x = ⟨1, (i : Int) + 1, k i, m i, z i⟩ := by
  induction n with
  | zero => simp [colS] at h
  | succ n ih =>
    simp only [colS] at h
    by_cases e : i < n
    · rw [List.getElem?_append_left (by rw [colS_len]; exact e)] at h
      exact ⟨by omega, (ih h).2⟩
    · rw [List.getElem?_append_right (by rw [colS_len]; omega), colS_len] at h
      have : i = n := by
        have := (List.getElem?_eq_some_iff.1 h).1
        simp at this; omega
      subst this
      simp at h
      exact ⟨by omega, h.symm⟩
theorem colL_flat (k m : Nat → Int) (z : Nat → ByteArray) (n : Nat) : colL k m z n = (colS k m z n).flatMap Sh.cells := by
  induction n with
  | zero => rfl
  | succ n ih => simp [colL, colS, ih, Sh.cells]
theorem vals_snoc (xs : List Sh) (x : Sh) (f : Value → Option Value) : vals (xs ++ [x]) f = mp.upd (vals xs f) x.key x.val := by
  induction xs generalizing f with
  | nil => rfl
  | cons y ys ih => simp only [List.cons_append, vals]; exact ih _
theorem key_ne2 {a b c d : Int} (h : b ≠ d) : (Value.agg #[.int .i64 a, .int .i64 b]) ≠ .agg #[.int .i64 c, .int .i64 d] := fun e => by
  injection e with e
  simp at e
  exact h e.2
theorem vals_col (k m : Nat → Int) (z : Nat → ByteArray) (n : Nat) : ∀ i, i < n → vals (colS k m z n) (fun _ => none) (.agg #[.int .i64 1, .int .i64 ((i : Int) + 1)]) = some (VV (k i) (m i) (z i)) := by
  induction n with
  | zero => intro i hi; omega
  | succ n ih =>
    intro i hi
    simp only [colS]
    rw [vals_snoc]
    by_cases e : i = n
    · subst e; exact mp.upd_same _ _ _
    · rw [mp.upd_other _ _ (key_ne2 (show ((i : Int) + 1) ≠ (n : Int) + 1 by omega))]; exact ih i (by omega)
theorem keys_all : ((List.range 90).all fun i => (keyOf Tryz.prog 23 (.agg #[.int .i64 1, .int .i64 ((i : Int) + 1)])).isSome) = true := by kernel_rfl
theorem key21 : (keyOf Tryz.prog 23 (.agg #[.int .i64 2, .int .i64 1])).isSome = true := by kernel_rfl
theorem flat_at (xs : List Sh) : ∀ (i : Nat) x, xs[i]? = some x → ∀ (j : Nat) v, x.cells[j]? = some v → (xs.flatMap Sh.cells)[i * 7 + j]? = some v := by
  induction xs with
  | nil => intro i x hx; simp at hx
  | cons y ys ih =>
    intro i x hx j v hv
    have hy : y.cells.length = 7 := rfl
    simp only [List.flatMap_cons]
    cases i with
    | zero =>
      simp at hx; subst hx
      have hj : j < 7 := by have := (List.getElem?_eq_some_iff.1 hv).1; omega
      rw [List.getElem?_append_left (by omega)]
      simpa using hv
    | succ i =>
      simp at hx
      rw [List.getElem?_append_right (by omega), show (i + 1) * 7 + j - y.cells.length = i * 7 + j from by omega]
      exact ih i x hx j v hv
theorem shl_own {w : World} {base g n cap : Nat} {xs : List Sh} (h : w.ownsRow base 40 7 (.slice (some ⟨g, 0, none⟩) n cap) n (xs.flatMap Sh.cells)) : ShL w (some ⟨g, 0, none⟩) xs := by
  obtain ⟨h0, ⟨h, -⟩ | ⟨g', cap', cur, h1, h2, h3, -, -, -, h7⟩⟩ := h
  · cases h
  · injection h1 with h1
    injection h1 with h1
    injection h1 with h1
    subst h1
    refine .inr ⟨g, 0, rfl, fm.lt_blk h3, fun i x hx j v hv => ?_⟩
    have := flat_at xs i x hx j v hv
    rw [← h7, List.getElem?_take] at this
    split at this
    · simp [World.cell?, h3]; simpa using this
    · cases this
theorem works_q {k n : Int} {s : ByteArray} {r t : fm.Rf} {p : Option Addr} {q c : Nat} {T0 : fm.T} (w : World) (hE : fm.EnvW w) (hN : In w (fm.NV k n s r t (.slice p q c)) T0) (hO : fm.Ok T0) (hC : fm.Ckd T0)
    (pl : Option Addr) (cl : Nat) (xs : List Sh) (hx : ShL w pl xs) (hok : ShOk xs) (hlen : xs.length ≤ 1000) {l : Nat} (hl : xs.length = l) {kr mr : Int} {zr : ByteArray} (hV : ∀ (w : World) (P : Nat → Prop) (v : Value) (mb : Nat), fm.Nd w P v T0 → EvW w mb (vals xs fun _ => none) → fm.EnvW w → Wo w mb v kr mr zr) :
    Calls Tryz.prog 14 #[fm.NV k n s r t (.slice p q c), .slice pl l cl] w fun e w' => e = .returned (.tuple #[VV kr mr zr, .bool true]) ∧ Below w.heap.size w w' := by
  subst hl; exact works_gen w hE hN hO hC pl cl xs hx hok hlen hV
end Go.Proofs.YtoaejcppfmjhdaaGreatDoor.ev
/- The law EvalLogic: its nodes and its cells, and what its formulas are worked to. Conditions: the package variables as the program's text lays them; of the rest as each theorem says. -/
namespace Go.Proofs.YtoaejcppfmjhdaaGreatDoor.ov
open Go.RowKit
open ev (VV b2I In ShL ShOk Sh vals colS Ev EvW Wo tR)
open fm (T W ink Ok Rf NV N12)
abbrev rI (i : Nat) : Rf := ⟨1, (i : Int) + 1, false, false⟩
abbrev tRi (i : Nat) : T := .nd 5 0 nul (rI i) .z []
def tsA (n : Nat) : List T := (List.range n).map tRi
abbrev tAnd (n : Nat) : T := .nd 9 0 nmAnd .z .z (tsA n)
abbrev tNot (a : T) : T := .nd 9 0 nmNot .z .z [a]
def tsO (n : Nat) : List T := (List.range n).map fun i => tNot (tRi i)
abbrev tOr (n : Nat) : T := .nd 9 0 nmOr .z .z (tsO n)
abbrev tIf (n : Nat) : T := .nd 9 0 nmIf .z .z [tAnd n, tR 2, tR 3]
abbrev tFact : T := tNot (.nd 3 1 nul .z .z [])
theorem tsA_len (n : Nat) : (tsA n).length = n := by simp [tsA]
theorem tsO_len (n : Nat) : (tsO n).length = n := by simp [tsO]
theorem tsA_at {n i : Nat} {t : T} (h : (tsA n)[i]? = some t) : i < n ∧ t = tRi i := by
  unfold tsA at h
  rw [List.getElem?_map] at h
  obtain ⟨j, hj, rfl⟩ := Option.map_eq_some_iff.1 h
  have := List.getElem?_eq_some_iff.1 hj
  obtain ⟨h1, h2⟩ := this
  simp at h1 h2
  exact ⟨h1, by rw [h2]⟩
theorem tsO_at {n i : Nat} {t : T} (h : (tsO n)[i]? = some t) : i < n ∧ t = tNot (tRi i) := by
  unfold tsO at h
  rw [List.getElem?_map] at h
  obtain ⟨j, hj, rfl⟩ := Option.map_eq_some_iff.1 h
  have := List.getElem?_eq_some_iff.1 hj
  obtain ⟨h1, h2⟩ := this
  simp at h1 h2
  exact ⟨h1, by rw [h2]⟩
theorem ok_And {n : Nat} (h : n ≤ 8) : Ok (tAnd n) := .mk (by decide) (by rw [tsA_len]; omega) (fun i u hu => by obtain ⟨-, rfl⟩ := tsA_at hu; exact ev.ok_leaf (by decide))
theorem ok_Not {a : T} (h : Ok a) : Ok (tNot a) := ev.ok1 (by decide) h
theorem ok_Or {n : Nat} (h : n ≤ 8) : Ok (tOr n) := .mk (by decide) (by rw [tsO_len]; omega) (fun i u hu => by obtain ⟨-, rfl⟩ := tsO_at hu; exact ok_Not (ev.ok_leaf (by decide)))
theorem ok_If {n : Nat} (h : n ≤ 8) : Ok (tIf n) := ev.ok3 (by decide) (ok_And h) (ev.ok_leaf (by decide)) (ev.ok_leaf (by decide))
/-- Written in so many bytes, in so many levels. -/
def Wr (t : T) (L D : Nat) : Prop := ∃ x d, W ink t x d ∧ x.length ≤ L ∧ d ≤ D
theorem commas_len {L : Nat} : ∀ (xs : List (List UInt8)), (∀ x ∈ xs, x.length ≤ L) → (fm.commas xs).length ≤ xs.length * (L + 1)
  | [], _ => by simp [fm.commas]
  | [x], h => by have := h x (by simp); simp [fm.commas]; omega
  | x :: y :: xs, h => by
    have h1 := h x (by simp)
    have h2 := commas_len (y :: xs) (fun z hz => h z (by simp at hz; simp [hz]))
    simp only [fm.commas, List.length_append, List.length_cons] at h2 ⊢
    have : (xs.length + 1 + 1) * (L + 1) = (xs.length + 1) * (L + 1) + (L + 1) := by rw [Nat.add_mul (xs.length + 1)]; omega
    omega
theorem fold_le {D : Nat} : ∀ (ds : List Nat), (∀ d ∈ ds, d ≤ D) → ds.foldr max 0 ≤ D
  | [], _ => by simp
  | d :: ds, h => by
    have h1 := h d (by simp)
    have h2 := fold_le ds (fun z hz => h z (by simp [hz]))
    simp only [List.foldr_cons]
    omega
theorem wr_lists {L D : Nat} : ∀ (ts : List T), (∀ t ∈ ts, Wr t L D) → ∃ (xs : List (List UInt8)) (ds : List Nat), xs.length = ts.length ∧ ds.length = ts.length ∧ (∀ (i : Nat) t x d, ts[i]? = some t → xs[i]? = some x → ds[i]? = some d → W ink t x d) ∧ (∀ x ∈ xs, x.length ≤ L) ∧ (∀ d ∈ ds, d ≤ D)
  | [], _ => ⟨[], [], rfl, rfl, fun i t x d h => by simp at h, by simp, by simp⟩
  | t :: ts, h => by
    obtain ⟨x, d, h1, h2, h3⟩ := h t (by simp)
    obtain ⟨xs, ds, g1, g2, g3, g4, g5⟩ := wr_lists ts (fun u hu => h u (by simp [hu]))
    refine ⟨x :: xs, d :: ds, by simp [g1], by simp [g2], fun i u y e q1 q2 q3 => ?_, ?_, ?_⟩
    · cases i with
      | zero => simp at q1 q2 q3; subst q1 q2 q3; exact h1
      | succ i => simp at q1 q2 q3; exact g3 i u y e q1 q2 q3
    · intro y hy; rcases List.mem_cons.1 hy with rfl | hy
      · exact h2
      · exact g4 y hy
    · intro y hy; rcases List.mem_cons.1 hy with rfl | hy
      · exact h3
      · exact g5 y hy
theorem wr_call {nm : ByteArray} (hn : fm.isNm nm = true) {ts : List T} {L D : Nat} (h : ∀ t ∈ ts, Wr t L D) : Wr (.nd 9 0 nm .z .z ts) (nm.size + 2 + ts.length * (L + 1)) (D + 1) := by
  obtain ⟨xs, ds, g1, g2, g3, g4, g5⟩ := wr_lists ts h
  refine ⟨_, _, .call hn g1 g2 g3, ?_, by have := fold_le ds g5; omega⟩
  have := commas_len xs g4
  rw [g1] at this
  have e : nm.data.toList.length = nm.size := by simp
  simp only [List.length_append, List.length_cons, List.length_nil, e]
  omega
theorem wr_more {t : T} {L L' D D' : Nat} (h : Wr t L D) (h1 : L ≤ L') (h2 : D ≤ D') : Wr t L' D' := by
  obtain ⟨x, d, a, b, c⟩ := h
  exact ⟨x, d, a, by omega, by omega⟩
theorem wr_ref {i : Nat} (h : i < 8) : Wr (tRi i) 3 0 := by
  have hc : adr.isC 1 ((i : Int) + 1) = true := by unfold adr.isC; simp; omega
  refine ⟨ink.ref (rI i), 0, .ref hc, ?_, by omega⟩
  have := ev.ref_len (i + 1) (by omega)
  simpa using this
theorem wr_R {c : Nat} (h : adr.isC c 1 = true) : Wr (tR c) 2 0 := ⟨_, 0, ev.w_R c h, by simp, by omega⟩
theorem wr_And {n : Nat} (h : n ≤ 8) : Wr (tAnd n) 37 1 := wr_more (wr_call (by decide) (L := 3) (D := 0) (fun t ht => by
  obtain ⟨i, hi, he⟩ := List.getElem_of_mem ht
  obtain ⟨h1, rfl⟩ := tsA_at (List.getElem?_eq_some_iff.2 ⟨hi, he⟩)
  exact wr_ref (by omega))) (by rw [tsA_len]; show 3 + 2 + n * (3 + 1) ≤ 37; omega) (by omega)
theorem wr_Not {a : T} {L D : Nat} (h : Wr a L D) : Wr (tNot a) (L + 6) (D + 1) := wr_more (wr_call (by decide) (L := L) (D := D) (fun t ht => by simp at ht; subst ht; exact h)) (by show 3 + 2 + 1 * (L + 1) ≤ L + 6; omega) (Nat.le_refl _)
theorem wr_Or {n : Nat} (h : n ≤ 8) : Wr (tOr n) 84 2 := wr_more (wr_call (by decide) (L := 9) (D := 1) (fun t ht => by
  obtain ⟨i, hi, he⟩ := List.getElem_of_mem ht
  obtain ⟨h1, rfl⟩ := tsO_at (List.getElem?_eq_some_iff.2 ⟨hi, he⟩)
  exact wr_Not (wr_ref (by omega)))) (by rw [tsO_len]; show 2 + 2 + n * (9 + 1) ≤ 84; omega) (by omega)
theorem wr_If {n : Nat} (h : n ≤ 8) : Wr (tIf n) 118 2 := wr_more (wr_call (by decide) (L := 37) (D := 1) (fun t ht => by
  simp at ht
  rcases ht with rfl | rfl | rfl
  · exact wr_And h
  · exact wr_more (wr_R (c := 2) (by decide)) (by omega) (by omega)
  · exact wr_more (wr_R (c := 3) (by decide)) (by omega) (by omega))) (by show 2 + 2 + 3 * (37 + 1) ≤ 118; omega) (by omega)
theorem wr_Fact : Wr tFact 10 1 := wr_Not ⟨_, 0, .truth (.inr rfl), by decide, by omega⟩
theorem cntL_le {C : Nat} : ∀ (ts : List T), (∀ t ∈ ts, t.cnt ≤ C) → fm.cntL ts ≤ ts.length * C
  | [], _ => by simp [fm.cntL]
  | t :: ts, h => by
    have h1 := h t (by simp)
    have h2 := cntL_le ts (fun u hu => h u (by simp [hu]))
    simp only [fm.cntL, List.length_cons, Nat.add_mul]
    omega
theorem cnt_ref (i : Nat) : (tRi i).cnt = 1 := by simp [fm.cnt_eq, fm.cntL]
theorem cnt_And {n : Nat} (h : n ≤ 8) : (tAnd n).cnt ≤ 9 := by
  rw [fm.cnt_eq]
  have := cntL_le (C := 1) (tsA n) (fun t ht => by
    obtain ⟨i, hi, he⟩ := List.getElem_of_mem ht
    obtain ⟨h1, rfl⟩ := tsA_at (List.getElem?_eq_some_iff.2 ⟨hi, he⟩)
    rw [cnt_ref]; omega)
  rw [tsA_len] at this
  omega
theorem cnt_Or {n : Nat} (h : n ≤ 8) : (tOr n).cnt ≤ 17 := by
  rw [fm.cnt_eq]
  have := cntL_le (C := 2) (tsO n) (fun t ht => by
    obtain ⟨i, hi, he⟩ := List.getElem_of_mem ht
    obtain ⟨h1, rfl⟩ := tsO_at (List.getElem?_eq_some_iff.2 ⟨hi, he⟩)
    simp [fm.cnt_eq, fm.cntL])
  rw [tsO_len] at this
  omega
theorem ckd_wr {t : T} {L D : Nat} (h : Wr t L D) (h6 : t.kd ≠ 6) (hc : t.cnt ≤ 200) (hL : L + 1 ≤ 200) (hD : D ≤ 30) : fm.Ckd t := by
  obtain ⟨x, d, a, b, c⟩ := h
  exact ⟨x, d, a, h6, hc, by omega, by omega⟩
theorem ckd_And {n : Nat} (h : n ≤ 8) : fm.Ckd (tAnd n) := ckd_wr (wr_And h) (show (9 : Int) ≠ 6 by decide) (by have := cnt_And h; omega) (by omega) (by omega)
theorem ckd_Na {n : Nat} (h : n ≤ 8) : fm.Ckd (tNot (tAnd n)) := ckd_wr (wr_Not (wr_And h)) (show (9 : Int) ≠ 6 by decide) (by have := cnt_And h; rw [fm.cnt_eq]; simp only [fm.cntL]; omega) (by omega) (by omega)
theorem ckd_Or {n : Nat} (h : n ≤ 8) : fm.Ckd (tOr n) := ckd_wr (wr_Or h) (show (9 : Int) ≠ 6 by decide) (by have := cnt_Or h; omega) (by omega) (by omega)
theorem ckd_If {n : Nat} (h : n ≤ 8) : fm.Ckd (tIf n) := ckd_wr (wr_If h) (show (9 : Int) ≠ 6 by decide) (by have := cnt_And h; rw [fm.cnt_eq]; simp only [fm.cntL, fm.cnt_eq] at this ⊢; omega) (by omega) (by omega)
theorem ckd_Fact : fm.Ckd tFact := ckd_wr wr_Fact (show (9 : Int) ≠ 6 by decide) (by simp [fm.cnt_eq, fm.cntL]) (by omega) (by omega)
set_option maxRecDepth 100000 in
set_option maxHeartbeats 1600000 in
theorem wo_tru (mb : Option Nat) (p : Option Addr) (q c : Nat) (w : World) : Calls Tryz.prog 29 #[.map mb, NV 3 1 nul .z .z (.slice p q c)] w fun e w' => e = .returned (VV 3 1 nul) ∧ Below w.heap.size w w' := by
  obtain ⟨hA, hR⟩ := ev.two_new w (.cells (N12 3 1 nul .z .z (.slice p q c)) 28) (.cells #[.int .i64 0, .int .i64 0, .string nul] 31)
  have hbW : Below w.heap.size w ((w.alloc (.cells (N12 3 1 nul .z .z (.slice p q c)) 28)).alloc (.cells #[.int .i64 0, .int .i64 0, .string nul] 31)) := ((Below.refl _ _).alloc (Nat.le_refl _) _).alloc (by simp) _
  obtain ⟨⟨a0, a1, a2, a3, a4, a5, a6, a7, a8, a9, a10, a11⟩, -⟩ := fm.cells12 hA
  have HR : Hid (∀ wx, Below ((w.alloc (.cells (N12 3 1 nul .z .z (.slice p q c)) 28)).alloc (.cells #[.int .i64 0, .int .i64 0, .string nul] 31)).heap.size ((w.alloc (.cells (N12 3 1 nul .z .z (.slice p q c)) 28)).alloc (.cells #[.int .i64 0, .int .i64 0, .string nul] 31)) wx → wx.heap[w.heap.size + 1]? = some (.cells #[.int .i64 0, .int .i64 0, .string nul] 31 (0, 0)) ∧ Below w.heap.size w wx) := fun wx h => ⟨(h.block _ (fm.lt_blk hR)).trans hR, bnext hbW h hbW.size⟩
  clear hA hR hbW
  go_enter Tryz.func29, Tryz.ntmps29
  go_wp2_with fail
  refine (ev.truth_any _ _).mono ?_
  clear a0 a1 a2 a3 a4 a5 a6 a7 a8 a9 a10 a11
  rintro e w1 ⟨rfl, hb1⟩
  obtain ⟨hq1, hb2⟩ := HR.out w1 hb1
  have HB : Hid (Below w.heap.size w w1) := hb2
  have HQ1 : Hid (w1.heap[w.heap.size + 1]? = some (.cells #[.int .i64 0, .int .i64 0, .string nul] 31 (0, 0))) := hq1
  obtain ⟨c0, c1, c2⟩ := ev.cells3v hq1
  have f0 := ev.frz hq1
  clear hq1 hb1 hb2 HR
  go_wp2_with fail
  refine ev.fin3 HQ1.out (Q := bodyPost _ _ _ _ _) ?_
  clear c0 c1 c2 f0
  intro w2 hq2 hk2
  obtain ⟨d0, d1, d2⟩ := ev.cells3v hq2
  exact bodyPost_ret (v := VV 3 1 nul) (by simp [results, Tryz.results29, go_sem, d0, d1, d2, b2I]) rfl ⟨rfl, HB.out.trans (hk2 _ (by omega))⟩
/-- The cells that are shown. -/
abbrev shG (k m : Nat → Int) (z : Nat → ByteArray) (n : Nat) (a b : V3) : List Sh := colS k m z n ++ [⟨2, 1, a.k, a.n, a.s⟩] ++ [⟨3, 1, b.k, b.n, b.s⟩]
theorem shG_len (k m : Nat → Int) (z : Nat → ByteArray) (n : Nat) (a b : V3) : (shG k m z n a b).length = n + 2 := by simp [ev.colS_len]
section
variable {k m : Nat → Int} {z : Nat → ByteArray} {n : Nat} {a b : V3}
theorem look_i {i : Nat} (hi : i < n) : vals (shG k m z n a b) (fun _ => none) (.agg #[.int .i64 1, .int .i64 ((i : Int) + 1)]) = some (VV (k i) (m i) (z i)) := by
  rw [ev.vals_snoc, ev.vals_snoc]
  unfold mp.upd
  rw [if_neg (ev.key_ne (show (1 : Int) ≠ 3 by decide)), if_neg (ev.key_ne (show (1 : Int) ≠ 2 by decide))]
  exact ev.vals_col k m z n i hi
theorem look_a : vals (shG k m z n a b) (fun _ => none) (.agg #[.int .i64 2, .int .i64 1]) = some (VV a.k a.n a.s) := by
  rw [ev.vals_snoc, ev.vals_snoc]
  unfold mp.upd
  rw [if_neg (ev.key_ne (show (2 : Int) ≠ 3 by decide)), if_pos rfl]
theorem look_b : vals (shG k m z n a b) (fun _ => none) (.agg #[.int .i64 3, .int .i64 1]) = some (VV b.k b.n b.s) := by
  rw [ev.vals_snoc]
  unfold mp.upd
  rw [if_pos rfl]
theorem key31 : (keyOf Tryz.prog 23 (.agg #[.int .i64 3, .int .i64 1])).isSome = true := by kernel_rfl
theorem shG_eq (k m : Nat → Int) (z : Nat → ByteArray) (n : Nat) (a b : V3) : shG k m z n a b = colS k m z n ++ [⟨2, 1, a.k, a.n, a.s⟩, ⟨3, 1, b.k, b.n, b.s⟩] := by simp
theorem shG_ok (hn : n ≤ 8) (hv : ∀ i, i < n → vv.isVal (k i) (m i) (z i) = true) (ha : vv.isVal a.k a.n a.s = true) (hb : vv.isVal b.k b.n b.s = true) : ShOk (shG k m z n a b) := by
  intro i x hx
  by_cases e : i < n
  · rw [shG_eq, List.getElem?_append_left (by rw [ev.colS_len]; exact e)] at hx
    obtain ⟨-, rfl⟩ := ev.colS_at hx
    refine ⟨?_, ?_, fun wx => vv.check_yes _ _ _ wx (hv i e)⟩
    · show adr.isC 1 ((i : Int) + 1) = true
      unfold adr.isC; simp; omega
    · have := List.all_eq_true.1 ev.keys_all i (List.mem_range.2 (by omega))
      exact Option.isSome_iff_exists.1 this
  · rw [shG_eq, List.getElem?_append_right (by rw [ev.colS_len]; omega), ev.colS_len] at hx
    have hj : i - n = 0 ∨ i - n = 1 := by
      have := (List.getElem?_eq_some_iff.1 hx).1
      simp at this; omega
    rcases hj with hj | hj
    · rw [hj] at hx
      simp at hx
      subst hx
      exact ⟨show adr.isC 2 1 = true by decide, Option.isSome_iff_exists.1 ev.key21, fun wx => vv.check_yes _ _ _ wx ha⟩
    · rw [hj] at hx
      simp at hx
      subst hx
      exact ⟨show adr.isC 3 1 = true by decide, Option.isSome_iff_exists.1 key31, fun wx => vv.check_yes _ _ _ wx hb⟩
theorem wo_A (h1 : 1 ≤ n) (h8 : n ≤ 8) {w : World} {P : Nat → Prop} {v : Value} {mb : Nat} (hN : fm.Nd w P v (tAnd n)) (hV : EvW w mb (vals (shG k m z n a b) fun _ => none)) (hE : fm.EnvW w) : Wo w mb v (andV (Xi k m z) n).k (andV (Xi k m z) n).n (andV (Xi k m z) n).s := by
  have := wo_and hN hE (by rw [tsA_len]; exact h1) (by rw [tsA_len]; omega) (fun i t' ht => by obtain ⟨-, rfl⟩ := tsA_at ht; exact (show (5 : Int) ≠ 6 by decide)) (Xi k m z) (fun i _ => rfl) (fun i u t' ht hu => by
    obtain ⟨hi, rfl⟩ := tsA_at ht
    exact ev.wo_ev (Ev.ref (r := rI i) (look_i hi)) w P u mb hu hV)
  rw [tsA_len] at this
  exact this
theorem wo_Na (h1 : 1 ≤ n) (h8 : n ≤ 8) {w : World} {P : Nat → Prop} {v : Value} {mb : Nat} (hN : fm.Nd w P v (tNot (tAnd n))) (hV : EvW w mb (vals (shG k m z n a b) fun _ => none)) (hE : fm.EnvW w) : Wo w mb v (naV k m z n).k (naV k m z n).n (naV k m z n).s :=
  wo_not hN hE _ _ _ (fun _ hu => wo_A h1 h8 hu hV hE)
theorem wo_O (h1 : 1 ≤ n) (h8 : n ≤ 8) {w : World} {P : Nat → Prop} {v : Value} {mb : Nat} (hN : fm.Nd w P v (tOr n)) (hV : EvW w mb (vals (shG k m z n a b) fun _ => none)) (hE : fm.EnvW w) : Wo w mb v (orV (Yi k m z) n).k (orV (Yi k m z) n).n (orV (Yi k m z) n).s := by
  have := wo_or hN hE (by rw [tsO_len]; exact h1) (by rw [tsO_len]; omega) (fun i t' ht => by obtain ⟨-, rfl⟩ := tsO_at ht; exact (show (9 : Int) ≠ 6 by decide)) (Yi k m z) (fun i _ => rfl) (fun i u t' ht hu => by
    obtain ⟨hi, rfl⟩ := tsO_at ht
    exact wo_not hu hE (k i) (m i) (z i) (fun u' hu' => ev.wo_ev (Ev.ref (r := rI i) (look_i hi)) w P u' mb hu' hV))
  rw [tsO_len] at this
  exact this
theorem wo_I (h1 : 1 ≤ n) (h8 : n ≤ 8) {w : World} {P : Nat → Prop} {v : Value} {mb : Nat} (hN : fm.Nd w P v (tIf n)) (hV : EvW w mb (vals (shG k m z n a b) fun _ => none)) (hE : fm.EnvW w) : Wo w mb v (ifV (andV (Xi k m z) n) a b).k (ifV (andV (Xi k m z) n) a b).n (ifV (andV (Xi k m z) n) a b).s :=
  wo_if hN hE (andV (Xi k m z) n) a b (fun _ hu => wo_A h1 h8 hu hV hE) (fun u hu => ev.wo_ev (Ev.ref (r := ⟨2, 1, false, false⟩) look_a) w P u mb hu hV) (fun u hu => ev.wo_ev (Ev.ref (r := ⟨3, 1, false, false⟩) look_b) w P u mb hu hV)
end
/-- What the law's values are asked to be. -/
structure Lw (k m : Nat → Int) (z : Nat → ByteArray) (n : Nat) (a b : V3) : Prop where
  lo : 1 ≤ n
  hi : n ≤ 8
  vs : ∀ i, i < n → vv.isVal (k i) (m i) (z i) = true
  va : vv.isVal a.k a.n a.s = true
  vb : vv.isVal b.k b.n b.s = true
section
variable {k m : Nat → Int} {z : Nat → ByteArray} {n : Nat} {a b : V3} (h : Lw k m z n a b) (w : World) (hE : fm.EnvW w) (pl : Option Addr) (cl : Nat) (hx : ShL w pl (shG k m z n a b))
include h hE hx
theorem works_and {p : Option Addr} {q c : Nat} (hN : In w (NV 9 0 nmAnd .z .z (.slice p q c)) (tAnd n)) :
    Calls Tryz.prog 14 #[NV 9 0 nmAnd .z .z (.slice p q c), .slice pl (n + 2) cl] w fun e w' => e = .returned (.tuple #[VV (andV (Xi k m z) n).k (andV (Xi k m z) n).n (andV (Xi k m z) n).s, .bool true]) ∧ Below w.heap.size w w' :=
  ev.works_q w hE hN (ok_And h.hi) (ckd_And h.hi) pl cl (shG k m z n a b) hx (shG_ok h.hi h.vs h.va h.vb) (by rw [shG_len]; have := h.hi; omega) (shG_len k m z n a b) (fun _ _ _ _ hN' hV hE' => wo_A h.lo h.hi hN' hV hE')
theorem works_na {p : Option Addr} {q c : Nat} (hN : In w (NV 9 0 nmNot .z .z (.slice p q c)) (tNot (tAnd n))) :
    Calls Tryz.prog 14 #[NV 9 0 nmNot .z .z (.slice p q c), .slice pl (n + 2) cl] w fun e w' => e = .returned (.tuple #[VV (naV k m z n).k (naV k m z n).n (naV k m z n).s, .bool true]) ∧ Below w.heap.size w w' :=
  ev.works_q w hE hN (ok_Not (ok_And h.hi)) (ckd_Na h.hi) pl cl (shG k m z n a b) hx (shG_ok h.hi h.vs h.va h.vb) (by rw [shG_len]; have := h.hi; omega) (shG_len k m z n a b) (fun _ _ _ _ hN' hV hE' => wo_Na h.lo h.hi hN' hV hE')
theorem works_or {p : Option Addr} {q c : Nat} (hN : In w (NV 9 0 nmOr .z .z (.slice p q c)) (tOr n)) :
    Calls Tryz.prog 14 #[NV 9 0 nmOr .z .z (.slice p q c), .slice pl (n + 2) cl] w fun e w' => e = .returned (.tuple #[VV (orV (Yi k m z) n).k (orV (Yi k m z) n).n (orV (Yi k m z) n).s, .bool true]) ∧ Below w.heap.size w w' :=
  ev.works_q w hE hN (ok_Or h.hi) (ckd_Or h.hi) pl cl (shG k m z n a b) hx (shG_ok h.hi h.vs h.va h.vb) (by rw [shG_len]; have := h.hi; omega) (shG_len k m z n a b) (fun _ _ _ _ hN' hV hE' => wo_O h.lo h.hi hN' hV hE')
theorem works_if {p : Option Addr} {q c : Nat} (hN : In w (NV 9 0 nmIf .z .z (.slice p q c)) (tIf n)) :
    Calls Tryz.prog 14 #[NV 9 0 nmIf .z .z (.slice p q c), .slice pl (n + 2) cl] w fun e w' => e = .returned (.tuple #[VV (ifV (andV (Xi k m z) n) a b).k (ifV (andV (Xi k m z) n) a b).n (ifV (andV (Xi k m z) n) a b).s, .bool true]) ∧ Below w.heap.size w w' :=
  ev.works_q w hE hN (ok_If h.hi) (ckd_If h.hi) pl cl (shG k m z n a b) hx (shG_ok h.hi h.vs h.va h.vb) (by rw [shG_len]; have := h.hi; omega) (shG_len k m z n a b) (fun _ _ _ _ hN' hV hE' => wo_I h.lo h.hi hN' hV hE')
end
theorem wo_F {f : Value → Option Value} {w : World} {P : Nat → Prop} {v : Value} {mb : Nat} (hN : fm.Nd w P v tFact) (_hV : EvW w mb f) (hE : fm.EnvW w) : Wo w mb v 3 0 nul :=
  wo_not hN hE 3 1 nul (fun u hu w1 _ => by cases hu with | mk hk hl hs => exact wo_tru _ _ _ _ _)
theorem works_fact (w : World) (hE : fm.EnvW w) (g : Nat) (hg : w.heap[g]? = some (.cells (N12 3 1 nul .z .z (.slice none 0 0)) 28 (0, 0))) :
    Calls Tryz.prog 14 #[NV 9 0 nmNot .z .z (.slice (some ⟨g, 0, none⟩) 1 1), .slice none 0 0] w fun e w' => e = .returned (.tuple #[VV 3 0 nul, .bool true]) ∧ Below w.heap.size w w' :=
  ev.works_q w hE (ev.in1 (u := NV 3 1 nul .z .z (.slice none 0 0)) hg rfl ev.in_leaf) (ok_Not (ev.ok_leaf (by decide))) ckd_Fact none 0 [] (.inl rfl) (fun i x hx => by simp at hx) (by simp) rfl (fun _ _ _ _ hN hV hE => wo_F hN hV hE)
end Go.Proofs.YtoaejcppfmjhdaaGreatDoor.ov
