/- The law EvalFinds: its small functions. Conditions: as each theorem says. -/
import Derived.Test.YtoebppmagkijjaaGreatDoorLn
import Derived.Test.YtoebppmagkijjaaGreatDoorEw
import Derived.Deep.RegionHeldLaw
import Derived.Deep.AppendLies
namespace Go.Proofs.YtoebppmagkijjaaGreatDoor.ev
open Go.RowKit
theorem rbad (n : Int) (w : World) : Calls Tryz.prog 23 #[.int .i64 n] w fun e w' => e = .returned (VV 4 n nul) ∧ Below w.heap.size w w' := by
  go_enter Tryz.func23, Tryz.ntmps23
  go_wp2_with fail
  exact bodyPost_ret (v := VV 4 n nul) (by simp [results, Tryz.results23, go_sem]) rfl ⟨rfl, by (repeat (first | exact Below.refl _ _ | assumption | (refine Below.setCell ?_ (by first | omega | (simp <;> omega)) _) | (refine Below.alloc ?_ (by first | omega | (simp <;> omega)) _) | (refine Below.drew ?_)))⟩
theorem lbox (a b c d : Int) (w : World) : Calls Tryz.prog 18 #[.agg #[.int .i64 a, .int .i64 b], .agg #[.int .i64 c, .int .i64 d]] w fun e w' => e = .returned (fm.NV 6 0 nul ⟨a, b, false, false⟩ ⟨c, d, false, false⟩ (.slice none 0 0)) ∧ Below w.heap.size w w' := by
  go_enter Tryz.func18, Tryz.ntmps18
  go_wp2_with fail
  exact bodyPost_ret (v := fm.NV 6 0 nul ⟨a, b, false, false⟩ ⟨c, d, false, false⟩ (.slice none 0 0)) (by simp [results, Tryz.results18, go_sem]) rfl ⟨rfl, by (repeat (first | exact Below.refl _ _ | assumption | (refine Below.setCell ?_ (by first | omega | (simp <;> omega)) _) | (refine Below.alloc ?_ (by first | omega | (simp <;> omega)) _) | (refine Below.drew ?_)))⟩
/-- A list of values that was handed in. -/
def VM (w : World) (p : Option Addr) (q : Nat) (k m : Nat → Int) (z : Nat → ByteArray) : Prop :=
  q = 0 ∨ ∃ g o, p = some ⟨g, o, none⟩ ∧ g < w.heap.size ∧ ∀ i, i < q → w.cell? ⟨g, o + i * 3, none⟩ = some (.int .i64 (k i)) ∧ w.cell? ⟨g, o + i * 3 + 1, none⟩ = some (.int .i64 (m i)) ∧ w.cell? ⟨g, o + i * 3 + 2, none⟩ = some (.string (z i))
theorem VM.next {w w' : World} {p : Option Addr} {q : Nat} {k m : Nat → Int} {z : Nat → ByteArray} (h : VM w p q k m z) (hb : Below w.heap.size w w') : VM w' p q k m z := by
  rcases h with h | ⟨g, o, h1, h2, h3⟩
  · exact .inl h
  · refine .inr ⟨g, o, h1, Nat.lt_of_lt_of_le h2 hb.size, fun i hi => ?_⟩
    rw [hb.cell (p := ⟨g, _, none⟩) h2, hb.cell (p := ⟨g, _, none⟩) h2, hb.cell (p := ⟨g, _, none⟩) h2]
    exact h3 i hi
/-- Are all of the first so many values? -/
def allV (k m : Nat → Int) (z : Nat → ByteArray) : Nat → Bool
  | 0 => true
  | n + 1 => allV k m z n && vv.isVal (k n) (m n) (z n)
theorem allV_at {k m : Nat → Int} {z : Nat → ByteArray} {n : Nat} (h : allV k m z n = true) : ∀ i, i < n → vv.isVal (k i) (m i) (z i) = true := by
  induction n with
  | zero => intro i hi; omega
  | succ n ih =>
    unfold allV at h
    rw [Bool.and_eq_true] at h
    intro i hi
    by_cases e : i = n
    · subst e; exact h.2
    · exact ih h.1 i (by omega)
theorem allV_of {k m : Nat → Int} {z : Nat → ByteArray} {n : Nat} (h : ∀ i, i < n → vv.isVal (k i) (m i) (z i) = true) : allV k m z n = true := by
  induction n with
  | zero => rfl
  | succ n ih =>
    unfold allV
    rw [ih (fun i hi => h i (by omega)), h n (by omega)]
    rfl
/-- The cells of a column that is shown, as memory has them. -/
def colL (k m : Nat → Int) (z : Nat → ByteArray) : Nat → List Value
  | 0 => []
  | n + 1 => colL k m z n ++ [.int .i64 1, .int .i64 ((n : Int) + 1), .int .i64 (k n), .int .i64 (m n), .string (z n), .int .i64 0, .int .i64 0]
theorem own40 {w : World} {base n : Nat} {v : Value} {xs : List Value} (h : w.ownsRow base 40 7 v n xs) {w' : World} (hb : Below w.heap.size w w') : w'.ownsRow base 40 7 v n xs := by
  obtain ⟨h0, h | ⟨g, cap, cur, h1, h2, h3, h4⟩⟩ := h
  · exact ⟨h0, Or.inl h⟩
  · exact ⟨h0, Or.inr ⟨g, cap, cur, h1, h2, by rw [hb.block g (fm.lt_blk h3)]; exact h3, h4⟩⟩
abbrev Z7 : Array Value := #[.int .i64 0, .int .i64 0, .int .i64 0, .int .i64 0, .string nul, .int .i64 0, .int .i64 0]
theorem info40 : (Tryz.prog.info? 40).map (fun i => (i.zero, i.size, i.bytes)) = some (some (.agg Z7), 7, 64) := by kernel_rfl
set_option maxRecDepth 100000 in
set_option maxHeartbeats 4000000 in
theorem values_law (p : Option Addr) (q c : Nat) (hq : q ≤ 9223372036854775807) (k m : Nat → Int) (z : Nat → ByteArray) (w : World) (hv : VM w p q k m z) :
    Calls Tryz.prog 16 #[.slice p q c, .int .i64 90] w fun e w' => e = .returned (.bool (decide (1 ≤ q) && decide (q ≤ 90) && allV k m z q)) ∧ Below w.heap.size w w' := by
  have HV : Hid (VM w p q k m z) := hv
  clear hv
  by_cases h90 : 90 < (q : Int)
  · rw [show (decide (1 ≤ q) && decide (q ≤ 90) && allV k m z q) = false from by rw [decide_eq_false (by omega : ¬ q ≤ 90)]; simp]
    go_enter Tryz.func16, Tryz.ntmps16
    go_wp2_with fail
    go_ret
    exact ⟨rfl, Below.refl _ _⟩
  by_cases h0 : q = 0
  · subst h0
    go_enter Tryz.func16, Tryz.ntmps16
    go_wp2_with fail
    go_ret
    exact ⟨rfl, Below.refl _ _⟩
  obtain ⟨A, hA⟩ : ∃ A, allV k m z q = A := ⟨_, rfl⟩
  have HA : Hid (allV k m z q = A) := hA
  rw [show (decide (1 ≤ q) && decide (q ≤ 90) && allV k m z q) = A from by rw [decide_eq_true (by omega : 1 ≤ q), decide_eq_true (by omega : q ≤ 90), hA]; rfl]
  clear hA
  have hq0 : ¬ (q : Int) = 0 := by omega
  have HI : Hid (∀ a b c wx, Calls Tryz.prog 11 #[VV a b c] wx fun e w' => e = .returned (.bool (vv.isVal a b c)) ∧ Below wx.heap.size wx w') := fun a b c wx => vv.is_any a b c wx
  go_enter Tryz.func16, Tryz.ntmps16
  go_wp2_with fail
  go_loopw [5] (fun i wr => ∃ j : Nat, i = .int .i64 j ∧ j ≤ q ∧ Below w.heap.size w wr ∧ ∀ i, i < j → vv.isVal (k i) (m i) (z i) = true) (fun i _ => q - (intOf i).toNat)
  case atStart => exact ⟨0, rfl, Nat.zero_le _, Below.refl _ _, fun i hi => absurd hi (Nat.not_lt_zero _)⟩
  case round =>
    obtain ⟨j, rfl, hj, hbr, hd⟩ := hrel
    have HB : Hid (Below w.heap.size w wr) := hbr
    have HD : Hid (∀ i, i < j → vv.isVal (k i) (m i) (z i) = true) := hd
    clear hbr hd
    by_cases hlt : j < q
    · have hlt' : (j : Int) < (q : Int) := by omega
      have hj0 : (0 : Int) ≤ (j : Int) := by omega
      rcases HV.out.next HB.out with h | ⟨g, o, rfl, hg, h3⟩
      · omega
      obtain ⟨y0, y1, y2⟩ := h3 j hlt
      clear h3
      have HW := HI.out (k j) (m j) (z j) wr
      cases hb : vv.isVal (k j) (m j) (z j) with
      | true =>
        have HE : Hid (vv.isVal (k j) (m j) (z j) = true) := hb
        rw [hb] at HW
        clear hb
        go_wp2_with fail
        refine HW.mono ?_
        clear y0 y1 y2
        rintro e w1 ⟨rfl, hb1⟩
        have HB1 : Hid (Below w.heap.size w w1) := bnext HB.out hb1 HB.out.size
        clear hb1 HB
        go_wp2_with fail
        exact ⟨⟨j + 1, by simp, hlt, HB1.out, fun i hi => by
          by_cases e : i = j
          · subst e; exact HE.out
          · exact HD.out i (by omega)⟩, by simp [intOf]; omega⟩
      | false =>
        have HE : Hid (A = false) := by
          unfold Hid
          rw [← HA.out]
          cases h : allV k m z q with
          | false => rfl
          | true => have := allV_at h j hlt; rw [hb] at this; cases this
        rw [hb] at HW
        clear hb
        go_wp2_with fail
        refine HW.mono ?_
        clear y0 y1 y2
        rintro e w1 ⟨rfl, hb1⟩
        have HB1 : Hid (Below w.heap.size w w1) := bnext HB.out hb1 HB.out.size
        clear hb1 HB
        go_wp2_with fail
        go_ret
        exact ⟨by rw [HE.out]; rfl, HB1.out⟩
    · have hkn : q = j := by omega
      subst hkn
      go_wp2_with fail
      go_ret
      exact ⟨by rw [← HA.out, allV_of HD.out]; rfl, HB.out⟩
/-- A value in the list that was handed in, opened. -/
abbrev CY (w : World) (g o j : Nat) (a b : Int) (c : ByteArray) (wx : World) : Prop := wx.cell? ⟨g, o + j * 3, none⟩ = some (.int .i64 a) ∧ wx.cell? ⟨g, o + j * 3 + 1, none⟩ = some (.int .i64 b) ∧ wx.cell? ⟨g, o + j * 3 + 2, none⟩ = some (.string c) ∧ Below w.heap.size w wx
theorem cyb {w : World} {g o j : Nat} {a b : Int} {c : ByteArray} {wx : World} (h : CY w g o j a b c wx) : Below w.heap.size w wx := h.2.2.2
set_option maxRecDepth 100000 in
set_option maxHeartbeats 4000000 in
theorem column_law (p : Option Addr) (q c : Nat) (hq : q ≤ 90) (k m : Nat → Int) (z : Nat → ByteArray) (w : World) (hv : VM w p q k m z) :
    Calls Tryz.prog 17 #[.slice p q c] w fun e w' => (∃ v, e = .returned v ∧ w'.ownsRow w.heap.size 40 7 v q (colL k m z q)) ∧ Below w.heap.size w w' := by
  have HV : Hid (VM w p q k m z) := hv
  clear hv
  obtain ⟨i0, hi, hz0, hz1, hz2⟩ := info_parts info40
  have H19 : Hid (∀ c r wx, Calls Tryz.prog 19 #[.int .i64 c, .int .i64 r] wx fun e w' => e = .returned (.agg #[.int .i64 c, .int .i64 r]) ∧ Below wx.heap.size wx w') := lat
  go_enter Tryz.func17, Tryz.ntmps17
  go_wp2_with fail
  go_loopw [3, 4] (fun vl vi wr => ∃ j : Nat, vi = .int .i64 j ∧ j ≤ q ∧ wr.ownsRow w.heap.size 40 7 vl j (colL k m z j) ∧ Below w.heap.size w wr) (fun _ vi _ => q - (intOf vi).toNat)
  case atStart => exact ⟨0, rfl, Nat.zero_le _, ⟨rfl, .inl ⟨rfl, rfl⟩⟩, Below.refl _ _⟩
  case round =>
    obtain ⟨j, rfl, hj, hown, hbr⟩ := hrel
    by_cases hlt : j < q
    · have hlt' : (j : Int) < (q : Int) := by omega
      have hj0 : (0 : Int) ≤ (j : Int) := by omega
      have hj9 : (j : Int) ≤ 90 := by omega
      rcases HV.out with h | ⟨g, o, rfl, hg, h3⟩
      · omega
      have sof : ∀ wx, Below w.heap.size w wx → CY w g o j (k j) (m j) (z j) wx := fun wx hb => by
        obtain ⟨q0, q1, q2⟩ := h3 j hlt
        exact ⟨by rw [hb.cell (p := ⟨g, _, none⟩) hg]; exact q0, by rw [hb.cell (p := ⟨g, _, none⟩) hg]; exact q1, by rw [hb.cell (p := ⟨g, _, none⟩) hg]; exact q2, hb⟩
      have h0d := sof _ hbr.drew
      obtain ⟨y0, y1, y2, -⟩ := sof _ hbr
      have hod : wr.drew.ownsRow w.heap.size 40 7 u3 j (colL k m z j) := hown
      have hsz0 := hbr.size
      clear hown hbr h3
      go_upto_region 5 with fail
      go_region_held_law (fun wx => CY w g o j (k j) (m j) (z j) wx) (first | exact h0d | exact sof _ (bnext (cyb (by assumption)) (by assumption) (cyb (by assumption)).size) | exact sof _ (Below.alloc (cyb (by assumption)) (cyb (by assumption)).size _) | exact sof _ (by assumption)) (first | (go_at_call 19; refine (H19.out _ _ _).mono ?_; rintro e w1 ⟨rfl, hb1⟩; have hown1 := own40 hod hb1; have hB1 : Below w.heap.size w w1 := bnext (cyb h0d) hb1 (cyb h0d).size) | (refine step_append_lies _ rfl _ _ 29 rfl w.heap.size 40 i0 (.agg Z7) 7 64 Tryz.underlying29 hi hz0 hz1 hz2 rfl (by decide) u3 j (colL k m z j) rfl (hown1.alloc _) ⟨w1.heap.size, 0, none⟩ 1 1 [.int .i64 1, .int .i64 (IntKind.i64.wrap ((j : Int) + 1)), .int .i64 (k j), .int .i64 (m j), .string (z j), .int .i64 0, .int .i64 0] rfl rfl (World.news_of_block (heap_alloc_new w1 _)) (by simp [Value.oneCell']) (by decide) (by unfold maxLen; omega) (by omega) (by have := hB1.size; simp; omega) _ rfl ?_; intro g2 cap2 w3 hown3 hgrow hat hlt3; have hb3 : Below w.heap.size w w3 := (hB1.alloc hB1.size _).grown hgrow (by have := hB1.size; simp; omega) (fun q hq => (hown1.lt q hq).1)))
      all_goals
        rw [show IntKind.i64.wrap ((j : Int) + 1) = (j : Int) + 1 from by rw [IntKind.wrap_i64]; omega] at hown3
        have HO : Hid (w3.ownsRow w.heap.size 40 7 (.slice (some ⟨g2, 0, none⟩) (j + 1) cap2) (j + 1) (colL k m z (j + 1))) := hown3
        have HB : Hid (Below w.heap.size w w3) := hb3
        clear sof h0d y0 y1 y2 hod hown3 hb3 hgrow hat hlt3 hown1 hB1 hb1
        go_wp2_with fail
        exact ⟨⟨j + 1, by simp, hlt, HO.out, HB.out⟩, by simp [intOf]; omega⟩
    · have hkn : q = j := by omega
      subst hkn
      have HO : Hid (wr.ownsRow w.heap.size 40 7 u3 q (colL k m z q)) := hown
      have HB : Hid (Below w.heap.size w wr) := hbr
      clear hown hbr
      go_wp2_with fail
      go_ret
      exact ⟨⟨_, rfl, HO.out⟩, HB.out⟩
end Go.Proofs.YtoebppmagkijjaaGreatDoor.ev
/- Package eval: the function NONE. Conditions: as each theorem says. -/
namespace Go.Proofs.YtoebppmagkijjaaGreatDoor.ev
open Go.RowKit
abbrev fnN : Value := .agg #[.int .i64 0, .int .i64 0, .func (.func 173) #[] #[]]
theorem ofChoice_none (w : World) : Calls Tryz.prog 114 #[.string ⟨#[78, 79, 78, 69]⟩] w fun e w' => e = .returned fnN ∧ Below w.heap.size w w' := by
  go_enter Tryz.func114, Tryz.ntmps114
  go_wp2_with fail
  exact bodyPost_ret (v := fnN) (by simp [results, Tryz.results114, go_sem]) rfl ⟨rfl, (Below.refl _ _).alloc (Nat.le_refl _) _⟩
theorem ne_fnN (W : World) : (binOp BinOp.neq 118 (.func (.func 173) #[] #[]) Value.nilFunc).run Tryz.prog W = .ok (.bool true) W := by
  have h : (Op.equal 118 (.func (.func 173) #[] #[]) Value.nilFunc).run Tryz.prog W = .ok false W := by
    unfold Op.equal
    rw [show Op.maxDepth = Op.maxDepth - 1 + 1 from rfl]
    unfold Op.equalIn
    simp [go_sem]
  simp [binOp, go_sem, h]
theorem eq_fnN (W : World) : (binOp BinOp.eql 118 (.func (.func 173) #[] #[]) Value.nilFunc).run Tryz.prog W = .ok (.bool false) W := by
  have h : (Op.equal 118 (.func (.func 173) #[] #[]) Value.nilFunc).run Tryz.prog W = .ok false W := by
    unfold Op.equal
    rw [show Op.maxDepth = Op.maxDepth - 1 + 1 from rfl]
    unfold Op.equalIn
    simp [go_sem]
  simp [binOp, go_sem, h]
set_option maxRecDepth 8000 in
theorem functionOf_none (w : World) :
    Calls Tryz.prog 83 #[.string ⟨#[78, 79, 78, 69]⟩] w fun e w' => e = .returned fnN ∧ Below w.heap.size w w' := by
  have H1 : Hid (∀ wx, Calls Tryz.prog 113 #[.string ⟨#[78, 79, 78, 69]⟩] wx fun e w' => e = .returned noF ∧ Below wx.heap.size wx w') := ofMany_none
  have H2 : Hid (∀ wx, Calls Tryz.prog 114 #[.string ⟨#[78, 79, 78, 69]⟩] wx fun e w' => e = .returned fnN ∧ Below wx.heap.size wx w') := ofChoice_none
  go_enter Tryz.func83, Tryz.ntmps83
  go_wp2_with fail
  refine wp_loop_rounds 2 ?_
  obtain ⟨w0, hW⟩ : ∃ W, W = (w.alloc (.cells #[.int .i64 0, .int .i64 0, .nilFunc] 120)).alloc (.cells #[.func (.func 113) #[] #[], .func (.func 114) #[] #[], .func (.func 115) #[] #[], .func (.func 116) #[] #[], .func (.func 117) #[] #[]] 150) := ⟨_, rfl⟩
  rw [← hW]
  have HW : Hid (w0 = (w.alloc (.cells #[.int .i64 0, .int .i64 0, .nilFunc] 120)).alloc (.cells #[.func (.func 113) #[] #[], .func (.func 114) #[] #[], .func (.func 115) #[] #[], .func (.func 116) #[] #[], .func (.func 117) #[] #[]] 150)) := hW
  clear hW
  have B0 : Hid (Below w0.heap.size w0 w0) := Below.refl _ _
  refine rounds_step ?_
  intro K0 HK0
  have i0 := ix0 w0
  go_wp2_with fail
  refine (H1.out _).mono ?_
  rintro e v0 ⟨rfl, b0⟩
  clear i0
  have n0 := ne_nil (v0.alloc (.cells #[.int .i64 0, .int .i64 0, .nilFunc] 120))
  have B1 : Hid (Below w0.heap.size w0 (v0.alloc (.cells #[.int .i64 0, .int .i64 0, .nilFunc] 120))) := bstep B0.out b0 B0.out.size
  clear b0
  go_wp2_with fail
  refine HK0.out _ _ ?_
  clear HK0 K0 n0 B0
  obtain ⟨w1, h1⟩ : ∃ W, W = v0.alloc (.cells #[.int .i64 0, .int .i64 0, .nilFunc] 120) := ⟨_, rfl⟩
  rw [← h1] at B1 ⊢
  clear h1
  refine rounds_step ?_
  intro K HK
  have i1 := ix1 w1
  go_wp2_with fail
  refine (H2.out _).mono ?_
  rintro e v3 ⟨rfl, b3⟩
  clear i1 HK
  have B4 : Below w0.heap.size w0 v3 := bnext B1.out b3 B1.out.size
  have hq1 : v3.heap[w.heap.size]? = some (.cells #[.int .i64 0, .int .i64 0, .nilFunc] 120 (0, 0)) := by
    rw [B4.block _ (by rw [HW.out]; simp; omega), HW.out]
    exact (((Below.refl (w.heap.size + 1) _).alloc (by simp) _).block w.heap.size (by omega)).trans (heap_alloc_new w _)
  have B5 : Hid (Below w.heap.size w v3) := bnext (show Below w.heap.size w w0 by rw [HW.out]; exact ((Below.refl _ _).alloc (Nat.le_refl _) _).alloc (by simp) _) B4 (by rw [HW.out]; simp; omega)
  have hlt : w.heap.size < v3.heap.size := fm.lt_blk hq1
  clear B4 b3 B1 HW
  obtain ⟨v4, h4⟩ : ∃ W, W = v3.alloc (.cells #[.int .i64 0, .int .i64 0, .func (.func 173) #[] #[]] 120) := ⟨_, rfl⟩
  have n3 := ne_fnN v4
  rw [h4] at n3
  have hq4 : v4.heap[w.heap.size]? = some (.cells #[.int .i64 0, .int .i64 0, .nilFunc] 120 (0, 0)) := by
    rw [h4]; exact (((Below.refl v3.heap.size v3).alloc (Nat.le_refl _) _).block _ hlt).trans hq1
  have HQ1 : Hid (v4.heap[w.heap.size]? = some (.cells #[.int .i64 0, .int .i64 0, .nilFunc] 120 (0, 0))) := hq4
  have B6 : Hid (Below w.heap.size w v4) := by rw [h4]; exact B5.out.alloc (Nat.le_of_lt hlt) _
  obtain ⟨c0, c1, c2⟩ := cells3v hq4
  have f0 := frz hq4
  have H44 : Hid (v3.alloc (.cells #[.int .i64 0, .int .i64 0, .func (.func 173) #[] #[]] 120) = v4) := h4.symm
  rw [h4] at c0 c1 c2 f0
  clear hq4 hq1 hlt h4
  go_wp2_with fail
  rw [H44.out] at *
  refine fin3e HQ1.out (Q := bodyPost _ _ _ _ _) ?_
  clear c0 c1 c2 f0
  intro w2 hq2 hk2 he2
  obtain ⟨d0, d1, d2⟩ := cells3v hq2
  exact bodyPost_ret (v := fnN) (by simp [results, Tryz.results83, go_sem, d0, d1, d2]) rfl ⟨rfl, B6.out.trans (hk2 _ (Nat.le_refl _))⟩
theorem noneF (mb : Option Nat) (p : Option Addr) (c : Nat) (w : World) : Calls Tryz.prog 173 #[.agg #[.map mb, .slice p 0 c]] w fun e w' => e = .returned (VV 4 6 nul) ∧ Below w.heap.size w w' := by
  have HN : Hid (∀ wx, Calls Tryz.prog 47 #[.int .i64 6] wx fun e w' => e = .returned (VV 4 6 nul) ∧ Below wx.heap.size wx w') := fun wx => bad_any _ wx
  obtain ⟨hA, hR⟩ := two_new w (.cells #[.map mb, .slice p 0 c] 123) (.cells #[.int .i64 0, .int .i64 0, .string nul] 31)
  have hbW : Below w.heap.size w ((w.alloc (.cells #[.map mb, .slice p 0 c] 123)).alloc (.cells #[.int .i64 0, .int .i64 0, .string nul] 31)) := ((Below.refl _ _).alloc (Nat.le_refl _) _).alloc (by simp) _
  have HST : Hid (∀ wx, Below ((w.alloc (.cells #[.map mb, .slice p 0 c] 123)).alloc (.cells #[.int .i64 0, .int .i64 0, .string nul] 31)).heap.size ((w.alloc (.cells #[.map mb, .slice p 0 c] 123)).alloc (.cells #[.int .i64 0, .int .i64 0, .string nul] 31)) wx → wx.heap[w.heap.size + 1]? = some (.cells #[.int .i64 0, .int .i64 0, .string nul] 31 (0, 0)) ∧ Below w.heap.size w wx) := fun wx h => ⟨(h.block _ (fm.lt_blk hR)).trans hR, bnext hbW h hbW.size⟩
  clear hA hR hbW
  go_enter Tryz.func173, Tryz.ntmps173
  go_wp2_with fail
  refine (HN.out _).mono ?_
  rintro e w2 ⟨rfl, hb2⟩
  obtain ⟨hq1, hbl⟩ := HST.out w2 hb2
  have HB : Hid (Below w.heap.size w w2) := hbl
  obtain ⟨c0, c1, c2⟩ := cells3v hq1
  have f0 : ∀ o, w2.frozen? ⟨w.heap.size + 1, o, none⟩ = false := frz hq1
  have HQ1 : Hid (w2.heap[w.heap.size + 1]? = some (.cells #[.int .i64 0, .int .i64 0, .string nul] 31 (0, 0))) := hq1
  clear hq1 hb2 hbl HST
  go_wp2_with fail
  refine fin3 HQ1.out (Q := bodyPost _ _ _ _ _) ?_
  clear c0 c1 c2 f0
  intro w3 hq3 hk3
  obtain ⟨d0, d1, d2⟩ := cells3v hq3
  exact bodyPost_ret (v := VV 4 6 nul) (by simp [results, Tryz.results173, go_sem, d0, d1, d2]) rfl ⟨rfl, HB.out.trans (hk3 _ (by omega))⟩
set_option maxRecDepth 100000 in
set_option maxHeartbeats 1600000 in
theorem call_none (mb : Option Nat) (p : Option Addr) (c : Nat) (w : World) : Calls Tryz.prog 50 #[.map mb, fm.NV 9 0 ⟨#[78, 79, 78, 69]⟩ .z .z (.slice p 0 c)] w fun e w' => e = .returned (VV 4 6 nul) ∧ Below w.heap.size w w' := by
  have HF : Hid (∀ wx, Calls Tryz.prog 83 #[.string ⟨#[78, 79, 78, 69]⟩] wx fun e w' => e = .returned fnN ∧ Below wx.heap.size wx w') := functionOf_none
  have HX : Hid (∀ wx, Calls Tryz.prog 173 #[.agg #[.map mb, .slice p 0 c]] wx fun e w' => e = .returned (VV 4 6 nul) ∧ Below wx.heap.size wx w') := noneF mb p c
  obtain ⟨hA, hR⟩ := two_new w (.cells (fm.N12 9 0 ⟨#[78, 79, 78, 69]⟩ .z .z (.slice p 0 c)) 28) (.cells #[.int .i64 0, .int .i64 0, .string nul] 31)
  have hbW : Below w.heap.size w ((w.alloc (.cells (fm.N12 9 0 ⟨#[78, 79, 78, 69]⟩ .z .z (.slice p 0 c)) 28)).alloc (.cells #[.int .i64 0, .int .i64 0, .string nul] 31)) := ((Below.refl _ _).alloc (Nat.le_refl _) _).alloc (by simp) _
  have HST : Hid (∀ wx, Below ((w.alloc (.cells (fm.N12 9 0 ⟨#[78, 79, 78, 69]⟩ .z .z (.slice p 0 c)) 28)).alloc (.cells #[.int .i64 0, .int .i64 0, .string nul] 31)).heap.size ((w.alloc (.cells (fm.N12 9 0 ⟨#[78, 79, 78, 69]⟩ .z .z (.slice p 0 c)) 28)).alloc (.cells #[.int .i64 0, .int .i64 0, .string nul] 31)) wx → wx.heap[w.heap.size]? = some (.cells (fm.N12 9 0 ⟨#[78, 79, 78, 69]⟩ .z .z (.slice p 0 c)) 28 (0, 0)) ∧ wx.heap[w.heap.size + 1]? = some (.cells #[.int .i64 0, .int .i64 0, .string nul] 31 (0, 0)) ∧ Below w.heap.size w wx) := fun wx h => ⟨(h.block _ (fm.lt_blk hA)).trans hA, (h.block _ (fm.lt_blk hR)).trans hR, bnext hbW h hbW.size⟩
  obtain ⟨⟨a0, a1, a2, a3, a4, a5, a6, a7, a8, a9, a10, a11⟩, -⟩ := fm.cells12 hA
  clear hA hR hbW
  go_enter Tryz.func50, Tryz.ntmps50
  go_wp2_with fail
  refine (HF.out _).mono ?_
  clear a0 a1 a2 a3 a4 a5 a6 a7 a8 a9 a10 a11
  rintro e w1 ⟨rfl, hb1⟩
  obtain ⟨V1, hV⟩ : ∃ V1, V1 = w1.alloc (.cells #[.int .i64 0, .int .i64 0, .func (.func 173) #[] #[]] 120) := ⟨_, rfl⟩
  have hbv : Below w1.heap.size w1 V1 := by rw [hV]; exact (Below.refl _ _).alloc (Nat.le_refl _) _
  have hbW1 := bnext hb1 hbv hb1.size
  have HB1 : Hid (Below ((w.alloc (.cells (fm.N12 9 0 ⟨#[78, 79, 78, 69]⟩ .z .z (.slice p 0 c)) 28)).alloc (.cells #[.int .i64 0, .int .i64 0, .string nul] 31)).heap.size ((w.alloc (.cells (fm.N12 9 0 ⟨#[78, 79, 78, 69]⟩ .z .z (.slice p 0 c)) 28)).alloc (.cells #[.int .i64 0, .int .i64 0, .string nul] 31)) V1) := hbW1
  have hV0 : V1.heap[w1.heap.size]? = some (.cells #[.int .i64 0, .int .i64 0, .func (.func 173) #[] #[]] 120 (0, 0)) := by rw [hV]; exact heap_alloc_new _ _
  obtain ⟨v0, v1, v2⟩ := cells3v hV0
  obtain ⟨⟨a0, a1, a2, a3, a4, a5, a6, a7, a8, a9, a10, a11⟩, -⟩ := fm.cells12 (HST.out V1 hbW1).1
  have ef := eq_fnN V1
  rw [hV] at v0 v1 v2 ef a0 a1 a2 a3 a4 a5 a6 a7 a8 a9 a10 a11
  have HVV : Hid (w1.alloc (.cells #[.int .i64 0, .int .i64 0, .func (.func 173) #[] #[]] 120) = V1) := hV.symm
  clear hV hV0 hb1 hbv hbW1 HF
  go_wp2_with fail
  rw [HVV.out] at *
  refine (HX.out _).mono ?_
  clear v0 v1 v2 ef a0 a1 a2 a3 a4 a5 a6 a7 a8 a9 a10 a11
  rintro e w4 ⟨rfl, hb4⟩
  obtain ⟨-, hq1, hbl⟩ := HST.out w4 (bnext HB1.out hb4 HB1.out.size)
  have HB : Hid (Below w.heap.size w w4) := hbl
  obtain ⟨c0, c1, c2⟩ := cells3v hq1
  have f0 : ∀ o, w4.frozen? ⟨w.heap.size + 1, o, none⟩ = false := frz hq1
  have HQ1 : Hid (w4.heap[w.heap.size + 1]? = some (.cells #[.int .i64 0, .int .i64 0, .string nul] 31 (0, 0))) := hq1
  clear hq1 hb4 hbl HB1 HX HVV HST
  go_wp2_with fail
  refine fin3 HQ1.out (Q := bodyPost _ _ _ _ _) ?_
  clear c0 c1 c2 f0
  intro w5 hq5 hk5
  obtain ⟨d0, d1, d2⟩ := cells3v hq5
  exact bodyPost_ret (v := VV 4 6 nul) (by simp [results, Tryz.results50, go_sem, d0, d1, d2]) rfl ⟨rfl, HB.out.trans (hk5 _ (by omega))⟩
end Go.Proofs.YtoebppmagkijjaaGreatDoor.ev
/- The law EvalFinds: its nodes and its cells, in plain Lean, and as they lie in memory. No program is walked here. -/
namespace Go.Proofs.YtoebppmagkijjaaGreatDoor.ev
open Go.RowKit
open fm (T W ink Ok Rf)
abbrev tOne : T := .nd 1 1 nul .z .z []
abbrev tNone : T := .nd 9 0 ⟨#[78, 79, 78, 69]⟩ .z .z []
abbrev tMatch (n : Nat) : T := .nd 9 0 ⟨#[77, 65, 84, 67, 72]⟩ .z .z [tXr, tBox n]
abbrev tCount (n : Nat) : T := .nd 9 0 ⟨#[67, 79, 85, 78, 84, 73, 70]⟩ .z .z [tBox n, tXr]
abbrev tLook (n : Nat) : T := .nd 9 0 ⟨#[76, 79, 79, 75, 85, 80]⟩ .z .z [tXr, tBox n, tOne]
abbrev tIndex (n j : Nat) : T := .nd 9 0 ⟨#[73, 78, 68, 69, 88]⟩ .z .z [tBox n, .nd 1 ((j : Int) + 1) nul .z .z [], tOne]
theorem ok_None : Ok tNone := ok_leaf (by decide)
theorem ok_Match (n : Nat) : Ok (tMatch n) := ok2 (by decide) (ok_leaf (by decide)) (ok_leaf (by decide))
theorem ok_Count (n : Nat) : Ok (tCount n) := ok2 (by decide) (ok_leaf (by decide)) (ok_leaf (by decide))
theorem ok_Look (n : Nat) : Ok (tLook n) := ok3 (by decide) (ok_leaf (by decide)) (ok_leaf (by decide)) (ok_leaf (by decide))
theorem ok_Index (n j : Nat) (hj : j ≤ 99) : Ok (tIndex n j) := ok3 (by decide) (ok_leaf (by decide)) (ok_leaf (by omega)) (ok_leaf (by decide))
theorem ref_len (n : Nat) (h : n < 100) : (ink.ref ⟨1, (n : Int), false, false⟩).length ≤ 3 := by
  show (fm.dollar false ++ UInt8.ofNat (64 + (1 : Int).toNat) :: (fm.dollar false ++ Lib.decDigits (n : Int).toNat)).length ≤ 3
  have := adr.it_len (r := (n : Int).toNat) (by omega)
  simp [fm.dollar]
  simpa using this
theorem num_len (n : Nat) (h : n < 100) : (ink.num (n : Int)).length ≤ 2 := by
  show (Lib.itoa (n : Int)).length ≤ 2
  have := adr.it_len (r := n) h
  unfold Lib.itoa
  simp
  exact this
theorem w_box (n : Nat) (h1 : 1 ≤ n) (h2 : n < 100) : W ink (tBox n) (ink.ref ⟨1, 1, false, false⟩ ++ 58 :: ink.ref ⟨1, (n : Int), false, false⟩) 0 :=
  .box (show adr.isC 1 1 = true by decide) (show adr.isC 1 (n : Int) = true by unfold adr.isC; simp; omega)
theorem w_num (n : Nat) (h : n < 100) : W ink (.nd 1 (n : Int) nul .z .z []) (ink.num (n : Int)) 0 := .num (by omega) (by omega)
theorem ckd_None : fm.Ckd tNone := by
  have h : W ink tNone (((⟨#[78, 79, 78, 69]⟩ : ByteArray)).data.toList ++ 40 :: (fm.commas [] ++ [41])) _ := .call (ds := []) (by decide) rfl rfl (fun i t x d h1 h2 h3 => by simp at h1)
  exact ⟨_, _, h, by decide, by simp [fm.cnt_eq, fm.cntL], by decide, by decide⟩
theorem ckd_Match (n : Nat) (h1 : 1 ≤ n) (h2 : n < 100) : fm.Ckd (tMatch n) := by
  have r1 := ref_len 1 (by omega)
  have r2 := ref_len n h2
  refine ⟨_, _, w2 (by decide) (w_R 2 (by decide)) (w_box n h1 h2), by simp [fm.T.kd], by simp [fm.cnt_eq, fm.cntL], ?_, ?_⟩
  · simp [fm.commas] at *; omega
  · simp
theorem ckd_Count (n : Nat) (h1 : 1 ≤ n) (h2 : n < 100) : fm.Ckd (tCount n) := by
  have r1 := ref_len 1 (by omega)
  have r2 := ref_len n h2
  refine ⟨_, _, w2 (by decide) (w_box n h1 h2) (w_R 2 (by decide)), by simp [fm.T.kd], by simp [fm.cnt_eq, fm.cntL], ?_, ?_⟩
  · simp [fm.commas] at *; omega
  · simp
theorem ckd_Look (n : Nat) (h1 : 1 ≤ n) (h2 : n < 100) : fm.Ckd (tLook n) := by
  have r1 := ref_len 1 (by omega)
  have r2 := ref_len n h2
  have r3 := num_len 1 (by omega)
  refine ⟨_, _, w3 (by decide) (w_R 2 (by decide)) (w_box n h1 h2) (w_num 1 (by omega)), by simp [fm.T.kd], by simp [fm.cnt_eq, fm.cntL], ?_, ?_⟩
  · simp [fm.commas] at *; omega
  · simp
theorem ckd_Index (n j : Nat) (h1 : 1 ≤ n) (h2 : n < 100) (hj : j < 90) : fm.Ckd (tIndex n j) := by
  have r1 := ref_len 1 (by omega)
  have r2 := ref_len n h2
  have r3 := num_len 1 (by omega)
  have r4 := num_len (j + 1) (by omega)
  refine ⟨_, _, w3 (by decide) (w_box n h1 h2) (by simpa using w_num (j + 1) (by omega)) (w_num 1 (by omega)), by simp [fm.T.kd], by simp [fm.cnt_eq, fm.cntL], ?_, ?_⟩
  · simp [fm.commas] at *; omega
  · simp
/-- The column's cells. -/
def colS (k m : Nat → Int) (z : Nat → ByteArray) : Nat → List Sh
  | 0 => []
  | n + 1 => colS k m z n ++ [⟨1, (n : Int) + 1, k n, m n, z n⟩]
theorem colS_len (k m : Nat → Int) (z : Nat → ByteArray) (n : Nat) : (colS k m z n).length = n := by
  induction n with
  | zero => rfl
  | succ n ih => simp [colS, ih]
theorem colS_at {k m : Nat → Int} {z : Nat → ByteArray} {n i : Nat} {x : Sh} (h : (colS k m z n)[i]? = some x) : i < n ∧ x = ⟨1, (i : Int) + 1, k i, m i, z i⟩ := by
  induction n with
  | zero => simp [colS] at h
  | succ n ih =>
    simp only [colS] at h
    by_cases e : i < n
    · rw [List.getElem?_append_left (by rw [colS_len]; exact e)] at h
      exact ⟨by omega, (ih h).2⟩
    · rw [List.getElem?_append_right (by rw [colS_len]; omega), colS_len] at h
      have : i = n := by
        have := (List.getElem?_eq_some_iff.1 h).1
        simp at this; omega
      subst this
      simp at h
      exact ⟨by omega, h.symm⟩
theorem colL_flat (k m : Nat → Int) (z : Nat → ByteArray) (n : Nat) : colL k m z n = (colS k m z n).flatMap Sh.cells := by
  induction n with
  | zero => rfl
  | succ n ih => simp [colL, colS, ih, Sh.cells]
theorem vals_snoc (xs : List Sh) (x : Sh) (f : Value → Option Value) : vals (xs ++ [x]) f = mp.upd (vals xs f) x.key x.val := by
  induction xs generalizing f with
  | nil => rfl
  | cons y ys ih => simp only [List.cons_append, vals]; exact ih _
theorem key_ne2 {a b c d : Int} (h : b ≠ d) : (Value.agg #[.int .i64 a, .int .i64 b]) ≠ .agg #[.int .i64 c, .int .i64 d] := fun e => by
  injection e with e
  simp at e
  exact h e.2
theorem vals_col (k m : Nat → Int) (z : Nat → ByteArray) (n : Nat) : ∀ i, i < n → vals (colS k m z n) (fun _ => none) (.agg #[.int .i64 1, .int .i64 ((i : Int) + 1)]) = some (VV (k i) (m i) (z i)) := by
  induction n with
  | zero => intro i hi; omega
  | succ n ih =>
    intro i hi
    simp only [colS]
    rw [vals_snoc]
    by_cases e : i = n
    · subst e; exact mp.upd_same _ _ _
    · rw [mp.upd_other _ _ (key_ne2 (show ((i : Int) + 1) ≠ (n : Int) + 1 by omega))]; exact ih i (by omega)
/-- The law's cells. -/
abbrev shF (k m : Nat → Int) (z : Nat → ByteArray) (n : Nat) (k' n' : Int) (s' : ByteArray) : List Sh := colS k m z n ++ [⟨2, 1, k', n', s'⟩]
theorem col_of {k m : Nat → Int} {z : Nat → ByteArray} {n : Nat} {k' n' : Int} {s' : ByteArray} (h1 : 1 ≤ n) (h2 : n ≤ 90) (h4 : k' ≠ 4) : Col (vals (shF k m z n k' n' s') fun _ => none) n k m z k' n' s' :=
  ⟨fun i hi => by rw [vals_snoc, mp.upd_other _ _ (key_ne (by simp))]; exact vals_col k m z n i hi, by rw [vals_snoc]; exact mp.upd_same _ _ _, h4, h1, by omega⟩
theorem keys_all : ((List.range 90).all fun i => (keyOf Tryz.prog 23 (.agg #[.int .i64 1, .int .i64 ((i : Int) + 1)])).isSome) = true := by kernel_rfl
theorem key21 : (keyOf Tryz.prog 23 (.agg #[.int .i64 2, .int .i64 1])).isSome = true := by kernel_rfl
theorem shF_ok {k m : Nat → Int} {z : Nat → ByteArray} {n : Nat} {k' n' : Int} {s' : ByteArray} (hn : n ≤ 90) (hv : ∀ i, i < n → vv.isVal (k i) (m i) (z i) = true) (hw : vv.isVal k' n' s' = true) : ShOk (shF k m z n k' n' s') := by
  intro i x hx
  by_cases e : i < n
  · rw [List.getElem?_append_left (by rw [colS_len]; exact e)] at hx
    obtain ⟨-, rfl⟩ := colS_at hx
    refine ⟨?_, ?_, fun wx => vv.check_yes _ _ _ wx (hv i e)⟩
    · show adr.isC 1 ((i : Int) + 1) = true
      unfold adr.isC; simp; omega
    · have := List.all_eq_true.1 keys_all i (List.mem_range.2 (by omega))
      exact Option.isSome_iff_exists.1 this
  · rw [List.getElem?_append_right (by rw [colS_len]; omega), colS_len] at hx
    have : i - n = 0 := by
      have := (List.getElem?_eq_some_iff.1 hx).1
      simp at this; omega
    rw [this] at hx
    simp at hx
    subst hx
    exact ⟨show adr.isC 2 1 = true by decide, Option.isSome_iff_exists.1 key21, fun wx => vv.check_yes _ _ _ wx hw⟩
theorem flat_at (xs : List Sh) : ∀ (i : Nat) x, xs[i]? = some x → ∀ (j : Nat) v, x.cells[j]? = some v → (xs.flatMap Sh.cells)[i * 7 + j]? = some v := by
  induction xs with
  | nil => intro i x hx; simp at hx
  | cons y ys ih =>
    intro i x hx j v hv
    have hy : y.cells.length = 7 := rfl
    simp only [List.flatMap_cons]
    cases i with
    | zero =>
      simp at hx; subst hx
      have hj : j < 7 := by have := (List.getElem?_eq_some_iff.1 hv).1; omega
      rw [List.getElem?_append_left (by omega)]
      simpa using hv
    | succ i =>
      simp at hx
      rw [List.getElem?_append_right (by omega), show (i + 1) * 7 + j - y.cells.length = i * 7 + j from by omega]
      exact ih i x hx j v hv
theorem shl_own {w : World} {base g n cap : Nat} {xs : List Sh} (h : w.ownsRow base 40 7 (.slice (some ⟨g, 0, none⟩) n cap) n (xs.flatMap Sh.cells)) : ShL w (some ⟨g, 0, none⟩) xs := by
  obtain ⟨h0, ⟨h, -⟩ | ⟨g', cap', cur, h1, h2, h3, -, -, -, h7⟩⟩ := h
  · cases h
  · injection h1 with h1
    injection h1 with h1
    injection h1 with h1
    subst h1
    refine .inr ⟨g, 0, rfl, fm.lt_blk h3, fun i x hx j v hv => ?_⟩
    have := flat_at xs i x hx j v hv
    rw [← h7, List.getElem?_take] at this
    split at this
    · simp [World.cell?, h3]; simpa using this
    · cases this
end Go.Proofs.YtoebppmagkijjaaGreatDoor.ev
/- The law EvalFinds: what its formulas are worked to. Conditions: as each theorem says. -/
namespace Go.Proofs.YtoebppmagkijjaaGreatDoor.ev
open Go.RowKit
theorem works_q {k n : Int} {s : ByteArray} {r t : fm.Rf} {p : Option Addr} {q c : Nat} {T0 : fm.T} (w : World) (hE : fm.EnvW w) (hN : In w (fm.NV k n s r t (.slice p q c)) T0) (hO : fm.Ok T0) (hC : fm.Ckd T0)
    (pl : Option Addr) (cl : Nat) (xs : List Sh) (hx : ShL w pl xs) (hok : ShOk xs) (hlen : xs.length ≤ 1000) {l : Nat} (hl : xs.length = l) {kr mr : Int} {zr : ByteArray} (hV : ∀ (w : World) (P : Nat → Prop) (v : Value) (mb : Nat), fm.Nd w P v T0 → EvW w mb (vals xs fun _ => none) → Wo w mb v kr mr zr) :
    Calls Tryz.prog 14 #[fm.NV k n s r t (.slice p q c), .slice pl l cl] w fun e w' => e = .returned (.tuple #[VV kr mr zr, .bool true]) ∧ Below w.heap.size w w' := by
  subst hl; exact works_gen w hE hN hO hC pl cl xs hx hok hlen hV
theorem wo_none {f : Value → Option Value} (w : World) (P : Nat → Prop) (v : Value) (mb : Nat) (hN : fm.Nd w P v tNone) (_hE : EvW w mb f) : Wo w mb v 4 6 nul := by
  intro w1 hbw
  cases hN with | @mk k0 n0 s0 r t' p q cc us ts hk hlen hs =>
  have hq : q = 0 := by have := hk.1; simp at hlen; simp [hlen] at this; omega
  subst hq
  exact wo_call (some mb) _ p 0 cc 4 6 nul w1 (fun wx _ => call_none (some mb) p cc wx)
theorem works_none (w : World) (hE : fm.EnvW w) : Calls Tryz.prog 14 #[fm.NV 9 0 ⟨#[78, 79, 78, 69]⟩ .z .z (.slice none 0 0), .slice none 0 0] w fun e w' => e = .returned (.tuple #[VV 4 6 nul, .bool true]) ∧ Below w.heap.size w w' :=
  works_q w hE in_leaf ok_None ckd_None none 0 [] (.inl rfl) (fun i x hx => by simp at hx) (by simp) rfl (fun w P v mb hN hE => wo_none w P v mb hN hE)
theorem works_match {k m : Nat → Int} {z : Nat → ByteArray} {n : Nat} {k' n' : Int} {s' : ByteArray} (h1 : 1 ≤ n) (h2 : n ≤ 90) (h4 : k' ≠ 4) (hv : ∀ i, i < n → vv.isVal (k i) (m i) (z i) = true) (hw : vv.isVal k' n' s' = true) (w : World) (hE : fm.EnvW w) (g : Nat) (hg : w.heap[g]? = some (.cells (fm.cellsL [fm.NV 5 0 nul ⟨2, 1, false, false⟩ .z (.slice none 0 0), fm.NV 6 0 nul ⟨1, 1, false, false⟩ ⟨1, (n : Int), false, false⟩ (.slice none 0 0)]).toArray 28 (0, 0))) (pl : Option Addr) (cl : Nat) (hx : ShL w pl (shF k m z n k' n' s')) :
    Calls Tryz.prog 14 #[fm.NV 9 0 ⟨#[77, 65, 84, 67, 72]⟩ .z .z (.slice (some ⟨g, 0, none⟩) 2 2), .slice pl (n + 1) cl] w fun e w' => e = .returned (.tuple #[VV (if (fstB (fun i => eqT (k i) (m i) (z i) k' n' s') n) < n then 1 else 4) (if (fstB (fun i => eqT (k i) (m i) (z i) k' n' s') n) < n then ((fstB (fun i => eqT (k i) (m i) (z i) k' n' s') n) : Int) + 1 else 6) nul, .bool true]) ∧ Below w.heap.size w w' :=
  works_q w hE (in2 (u := fm.NV 5 0 nul ⟨2, 1, false, false⟩ .z (.slice none 0 0)) (v := fm.NV 6 0 nul ⟨1, 1, false, false⟩ ⟨1, (n : Int), false, false⟩ (.slice none 0 0)) hg rfl in_leaf in_leaf) (ok_Match n) (ckd_Match n h1 (by omega)) pl cl (shF k m z n k' n' s') hx (shF_ok h2 hv hw) (by simp [colS_len]; omega) (by simp [colS_len]) (fun w P v mb hN hE => wo_match (col_of h1 h2 h4) w P v mb hN hE)
theorem works_count {k m : Nat → Int} {z : Nat → ByteArray} {n : Nat} {k' n' : Int} {s' : ByteArray} (h1 : 1 ≤ n) (h2 : n ≤ 90) (h4 : k' ≠ 4) (hv : ∀ i, i < n → vv.isVal (k i) (m i) (z i) = true) (hw : vv.isVal k' n' s' = true) (w : World) (hE : fm.EnvW w) (g : Nat) (hg : w.heap[g]? = some (.cells (fm.cellsL [fm.NV 6 0 nul ⟨1, 1, false, false⟩ ⟨1, (n : Int), false, false⟩ (.slice none 0 0), fm.NV 5 0 nul ⟨2, 1, false, false⟩ .z (.slice none 0 0)]).toArray 28 (0, 0))) (pl : Option Addr) (cl : Nat) (hx : ShL w pl (shF k m z n k' n' s')) :
    Calls Tryz.prog 14 #[fm.NV 9 0 ⟨#[67, 79, 85, 78, 84, 73, 70]⟩ .z .z (.slice (some ⟨g, 0, none⟩) 2 2), .slice pl (n + 1) cl] w fun e w' => e = .returned (.tuple #[VV 1 ((cntB (fun i => eqT (k i) (m i) (z i) k' n' s') n : Nat) : Int) nul, .bool true]) ∧ Below w.heap.size w w' :=
  works_q w hE (in2 (u := fm.NV 6 0 nul ⟨1, 1, false, false⟩ ⟨1, (n : Int), false, false⟩ (.slice none 0 0)) (v := fm.NV 5 0 nul ⟨2, 1, false, false⟩ .z (.slice none 0 0)) hg rfl in_leaf in_leaf) (ok_Count n) (ckd_Count n h1 (by omega)) pl cl (shF k m z n k' n' s') hx (shF_ok h2 hv hw) (by simp [colS_len]; omega) (by simp [colS_len]) (fun w P v mb hN hE => wo_count (col_of h1 h2 h4) w P v mb hN hE)
theorem works_look {k m : Nat → Int} {z : Nat → ByteArray} {n : Nat} {k' n' : Int} {s' : ByteArray} (h1 : 1 ≤ n) (h2 : n ≤ 90) (h4 : k' ≠ 4) (hv : ∀ i, i < n → vv.isVal (k i) (m i) (z i) = true) (hw : vv.isVal k' n' s' = true) (w : World) (hE : fm.EnvW w) (g : Nat) (hg : w.heap[g]? = some (.cells (fm.cellsL [fm.NV 5 0 nul ⟨2, 1, false, false⟩ .z (.slice none 0 0), fm.NV 6 0 nul ⟨1, 1, false, false⟩ ⟨1, (n : Int), false, false⟩ (.slice none 0 0), fm.NV 1 1 nul .z .z (.slice none 0 0)]).toArray 28 (0, 0))) (pl : Option Addr) (cl : Nat) (hx : ShL w pl (shF k m z n k' n' s')) :
    Calls Tryz.prog 14 #[fm.NV 9 0 ⟨#[76, 79, 79, 75, 85, 80]⟩ .z .z (.slice (some ⟨g, 0, none⟩) 3 3), .slice pl (n + 1) cl] w fun e w' => e = .returned (.tuple #[VV (if (fstB (fun i => eqT (k i) (m i) (z i) k' n' s') n) < n then k (fstB (fun i => eqT (k i) (m i) (z i) k' n' s') n) else 4) (if (fstB (fun i => eqT (k i) (m i) (z i) k' n' s') n) < n then m (fstB (fun i => eqT (k i) (m i) (z i) k' n' s') n) else 6) (if (fstB (fun i => eqT (k i) (m i) (z i) k' n' s') n) < n then z (fstB (fun i => eqT (k i) (m i) (z i) k' n' s') n) else nul), .bool true]) ∧ Below w.heap.size w w' :=
  works_q w hE (in3 (u := fm.NV 5 0 nul ⟨2, 1, false, false⟩ .z (.slice none 0 0)) (v := fm.NV 6 0 nul ⟨1, 1, false, false⟩ ⟨1, (n : Int), false, false⟩ (.slice none 0 0)) (x := fm.NV 1 1 nul .z .z (.slice none 0 0)) hg rfl in_leaf in_leaf in_leaf) (ok_Look n) (ckd_Look n h1 (by omega)) pl cl (shF k m z n k' n' s') hx (shF_ok h2 hv hw) (by simp [colS_len]; omega) (by simp [colS_len]) (fun w P v mb hN hE => wo_lookup (col_of h1 h2 h4) w P v mb hN hE)
theorem works_index {k m : Nat → Int} {z : Nat → ByteArray} {n : Nat} {k' n' : Int} {s' : ByteArray} (h1 : 1 ≤ n) (h2 : n ≤ 90) (h4 : k' ≠ 4) (hv : ∀ i, i < n → vv.isVal (k i) (m i) (z i) = true) (hw : vv.isVal k' n' s' = true) (j : Nat) (hj : j < n) (w : World) (hE : fm.EnvW w) (g : Nat) (hg : w.heap[g]? = some (.cells (fm.cellsL [fm.NV 6 0 nul ⟨1, 1, false, false⟩ ⟨1, (n : Int), false, false⟩ (.slice none 0 0), fm.NV 1 ((j : Int) + 1) nul .z .z (.slice none 0 0), fm.NV 1 1 nul .z .z (.slice none 0 0)]).toArray 28 (0, 0))) (pl : Option Addr) (cl : Nat) (hx : ShL w pl (shF k m z n k' n' s')) :
    Calls Tryz.prog 14 #[fm.NV 9 0 ⟨#[73, 78, 68, 69, 88]⟩ .z .z (.slice (some ⟨g, 0, none⟩) 3 3), .slice pl (n + 1) cl] w fun e w' => e = .returned (.tuple #[VV (k j) (m j) (z j), .bool true]) ∧ Below w.heap.size w w' :=
  works_q w hE (in3 (u := fm.NV 6 0 nul ⟨1, 1, false, false⟩ ⟨1, (n : Int), false, false⟩ (.slice none 0 0)) (v := fm.NV 1 ((j : Int) + 1) nul .z .z (.slice none 0 0)) (x := fm.NV 1 1 nul .z .z (.slice none 0 0)) hg rfl in_leaf in_leaf in_leaf) (ok_Index n j (by omega)) (ckd_Index n j h1 (by omega) (by omega)) pl cl (shF k m z n k' n' s') hx (shF_ok h2 hv hw) (by simp [colS_len]; omega) (by simp [colS_len]) (fun w P v mb hN hE => wo_index (col_of h1 h2 h4) j hj w P v mb hN hE)
end Go.Proofs.YtoebppmagkijjaaGreatDoor.ev
