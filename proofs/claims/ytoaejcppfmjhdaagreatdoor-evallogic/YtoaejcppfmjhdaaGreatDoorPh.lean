/- The text of a node without kids. Conditions: the package variables as the program's text lays them; the node can be written. -/
import Derived.Test.YtoaejcppfmjhdaaGreatDoorPc
import Derived.Test.YtoaejcppfmjhdaaGreatDoorAname
import Derived.Test.YtoaejcppfmjhdaaGreatDoorPe
import Derived.Lib.SplitLaws
import Derived.Deep.RegionHeld3
namespace Go.Proofs.YtoaejcppfmjhdaaGreatDoor.fm
open Go.RowKit
theorem rep_dbl : ∀ l : List UInt8, Lib.replaceK [34] [34, 34] (Lib.count l [34]) l = dbl l
  | [] => by decide
  | c :: l => by
    have ih := rep_dbl l
    by_cases hc : c = 34
    · subst hc
      have hi : Lib.index (34 :: l) [34] = ((0 : Nat) : Int) := by simp [Lib.index, List.isPrefixOf]
      rw [Lib.count_cons_eq, Nat.add_comm, Lib.replaceK_hit _ _ _ _ 0 hi]
      show [] ++ [34, 34] ++ Lib.replaceK [34] [34, 34] (Lib.count l [34]) l = _
      rw [ih]; simp [dbl]
    · rw [Lib.count_cons_ne _ _ _ hc]
      unfold dbl
      rw [if_neg hc]
      cases hk : Lib.count l [34] with
      | zero => rw [hk] at ih; rw [Lib.replaceK] at ih ⊢; rw [← ih]
      | succ k =>
        obtain ⟨i, hi⟩ := Lib.index_of_count (s := l) (old := [34]) (by omega)
        have hi2 : Lib.index (c :: l) [34] = ((i + 1 : Nat) : Int) := by
          rw [Lib.index, if_neg (by simp [List.isPrefixOf, Ne.symm hc]), hi, if_neg (by simp)]
          omega
        rw [hk, Lib.replaceK_hit _ _ _ _ i hi] at ih
        rw [Lib.replaceK_hit _ _ _ _ (i + 1) hi2, ← ih]
        simp
theorem repAll_dbl (l : List UInt8) : Lib.replaceAll l [34] [34, 34] = dbl l := by
  unfold Lib.replaceAll Lib.replace Lib.replaceNum
  rw [if_neg (by decide), if_pos (by omega)]
  exact rep_dbl l
theorem dbl_le (l : List UInt8) : (dbl l).length ≤ 2 * l.length := by
  induction l with
  | nil => simp [dbl]
  | cons c l ih => unfold dbl; split <;> simp <;> omega
/-- What the writer reads of the package variables. -/
structure EnvW (w : World) : Prop where
  f : EnvF w
  m : ∃ m, w.cell? ⟨2, 0, none⟩ = some (.int .i64 m)
theorem EnvW.below {w w' : World} {B : Nat} (h : EnvW w) (hb : Below B w w') (hB : 9 < B) : EnvW w' :=
  ⟨h.f.below hb hB, by obtain ⟨m, hm⟩ := h.m; exact ⟨m, by rw [hb.cell (p := ⟨2, 0, none⟩) (show 2 < B by omega)]; exact hm⟩⟩
theorem EnvW.lt {w : World} (h : EnvW w) : 9 < w.heap.size := h.f.env.size
theorem EnvW.next {w w' : World} (h : EnvW w) (hb : Below w.heap.size w w') : EnvW w' := h.below hb h.lt
abbrev nkd (k n : Int) (s : ByteArray) (r t : Rf) (p : Option Addr) (m c : Nat) : Value := NV k n s r t (.slice p m c)
theorem refText_any (r : Rf) (w : World) (h : adr.isC r.c r.r = true) :
    Calls Tryz.prog 229 #[RV r] w fun e w' => e = .returned (.string ⟨(ink.ref r).toArray⟩) ∧ Below w.heap.size w w' := by
  have hb0 : Below w.heap.size w (w.alloc (.cells #[.int .i64 r.c, .int .i64 r.r, .bool r.fc, .bool r.fr] 25)) := (Below.refl _ _).alloc (Nat.le_refl _) _
  obtain ⟨a0, a1, a2, a3⟩ := cells4 (blk_new w (.cells #[.int .i64 r.c, .int .i64 r.r, .bool r.fc, .bool r.fr] 25))
  have hnm : adr.nm r.c r.r r.fc r.fr = ⟨(ink.ref r).toArray⟩ := by
    apply ByteArray.ext
    apply Array.ext'
    rw [adr.nm_list r.fc r.fr h]
    rfl
  have HC := fun w => adr.refName_yes r.c r.r r.fc r.fr h w
  rw [hnm] at HC
  clear hnm
  go_enter Tryz.func229, Tryz.ntmps229
  go_wp2_with fail
  refine (HC _).mono ?_
  rintro e w1 ⟨rfl, hb1⟩
  go_wp2_with fail
  go_ret
  exact ⟨rfl, bnext hb0 hb1 hb0.size⟩
theorem leaf_num (n : Int) (s : ByteArray) (r t : Rf) (p : Option Addr) (m c : Nat) (w : World) (hE : EnvW w) (h0 : 0 ≤ n) (h1 : n ≤ 9223372036854775807) :
    Calls Tryz.prog 146 #[NV 1 n s r t (.slice p m c)] w fun e w' => e = .returned (.string ⟨(ink.num n).toArray⟩) ∧ Below w.heap.size w w' := by
  have hb0 : Below w.heap.size w (w.alloc (.cells (N12 1 n s r t (.slice p m c)) 28)) := (Below.refl _ _).alloc (Nat.le_refl _) _
  obtain ⟨⟨a0, a1, a2, a3, a4, a5, a6, a7, a8, a9, a10, a11⟩, af⟩ := cells12 (blk_new w (.cells (N12 1 n s r t (.slice p m c)) 28))
  have hE0 := (hE.next hb0).f.env
  have HC := itoa_any n _ (by omega) h1 hE0
  clear hE hE0
  go_enter Tryz.func146, Tryz.ntmps146
  go_wp2_with fail
  refine HC.mono ?_
  rintro e w1 ⟨rfl, hb1⟩
  go_wp2_with fail
  go_ret
  exact ⟨rfl, bnext hb0 hb1 hb0.size⟩
theorem leaf_text (n : Int) (s : ByteArray) (r t : Rf) (p : Option Addr) (m c : Nat) (w : World) (hE : EnvW w) (hs : s.size ≤ 200) :
    Calls Tryz.prog 146 #[NV 2 n s r t (.slice p m c)] w fun e w' => e = .returned (.string ⟨(34 :: (dbl s.data.toList ++ [34])).toArray⟩) ∧ Below w.heap.size w w' := by
  have hb0 : Below w.heap.size w (w.alloc (.cells (N12 2 n s r t (.slice p m c)) 28)) := (Below.refl _ _).alloc (Nat.le_refl _) _
  obtain ⟨⟨a0, a1, a2, a3, a4, a5, a6, a7, a8, a9, a10, a11⟩, af⟩ := cells12 (blk_new w (.cells (N12 2 n s r t (.slice p m c)) 28))
  obtain ⟨mm, hm⟩ := (hE.next hb0).m
  have hcb : Lib.countB s ⟨#[34]⟩ * (⟨#[34, 34]⟩ : ByteArray).size ≤ 1000 := by
    have h1 : Lib.countB s ⟨#[34]⟩ ≤ s.data.toList.length + 1 := Lib.count_le _ _
    have h2 : s.data.toList.length = s.size := by simp
    have h3 : (⟨#[34, 34]⟩ : ByteArray).size = 2 := rfl
    rw [h3]
    omega
  have HC := Tryz.strings_ReplaceAll s ⟨#[34]⟩ ⟨#[34, 34]⟩ mm _ (by omega) hm (by decide) (by omega)
  rw [show (⟨#[34]⟩ : ByteArray).data.toList = [34] from rfl, show (⟨#[34, 34]⟩ : ByteArray).data.toList = [34, 34] from rfl, repAll_dbl] at HC
  have hdl := dbl_le s.data.toList
  have hsz : (⟨(dbl s.data.toList).toArray⟩ : ByteArray).size ≤ 400 := by
    show (dbl s.data.toList).toArray.size ≤ 400
    simp at hdl ⊢
    have : s.data.size = s.size := rfl
    omega
  have HR : Hid (((⟨#[34]⟩ : ByteArray) ++ ⟨(dbl s.data.toList).toArray⟩) ++ ⟨#[34]⟩ = ⟨(34 :: (dbl s.data.toList ++ [34])).toArray⟩) := by
    unfold Hid
    apply ByteArray.ext
    simp [ByteArray.data_append]
  obtain ⟨D, hD⟩ : ∃ D : ByteArray, ⟨(dbl s.data.toList).toArray⟩ = D := ⟨_, rfl⟩
  rw [hD] at HC hsz HR
  clear hD hE hm hcb hdl
  go_enter Tryz.func146, Tryz.ntmps146
  go_wp2_with fail
  refine HC.mono ?_
  rintro e w1 ⟨rfl, hb1⟩
  have q1 : ¬ 9223372036854775807 < (⟨#[34]⟩ : ByteArray).size + D.size := by have : (⟨#[34]⟩ : ByteArray).size = 1 := rfl; omega
  have q2 : ¬ 9223372036854775807 < (⟨#[34]⟩ : ByteArray).size + D.size + (⟨#[34]⟩ : ByteArray).size := by have : (⟨#[34]⟩ : ByteArray).size = 1 := rfl; omega
  go_wp2_with fail
  go_ret
  exact ⟨by rw [← HR.out]; rfl, bnext hb0 hb1 hb0.size⟩
theorem leaf_truth (n : Int) (s : ByteArray) (r t : Rf) (p : Option Addr) (m c : Nat) (w : World) (hn : n = 0 ∨ n = 1) :
    Calls Tryz.prog 146 #[NV 3 n s r t (.slice p m c)] w fun e w' => e = .returned (.string ⟨(truT n).toArray⟩) ∧ Below w.heap.size w w' := by
  have hb0 : Below w.heap.size w (w.alloc (.cells (N12 3 n s r t (.slice p m c)) 28)) := (Below.refl _ _).alloc (Nat.le_refl _) _
  obtain ⟨⟨a0, a1, a2, a3, a4, a5, a6, a7, a8, a9, a10, a11⟩, af⟩ := cells12 (blk_new w (.cells (N12 3 n s r t (.slice p m c)) 28))
  have HC := fun w => show_tru 3 n nul w rfl rfl rfl
  have ht : truText n = ⟨(truT n).toArray⟩ := by rcases hn with rfl | rfl <;> rfl
  rw [ht] at HC
  clear ht
  go_enter Tryz.func146, Tryz.ntmps146
  go_wp2_with fail
  refine (HC _).mono ?_
  rintro e w1 ⟨rfl, hb1⟩
  go_wp2_with fail
  go_ret
  exact ⟨rfl, bnext hb0 hb1 hb0.size⟩
theorem leaf_bad (n : Nat) (s : ByteArray) (r t : Rf) (p : Option Addr) (m c : Nat) (w : World) (hE : EnvW w) (h1 : 1 ≤ n) (h6 : n ≤ 6) :
    Calls Tryz.prog 146 #[NV 4 n s r t (.slice p m c)] w fun e w' => e = .returned (.string ⟨(badT n).toArray⟩) ∧ Below w.heap.size w w' := by
  have hb0 : Below w.heap.size w (w.alloc (.cells (N12 4 n s r t (.slice p m c)) 28)) := (Below.refl _ _).alloc (Nat.le_refl _) _
  obtain ⟨⟨a0, a1, a2, a3, a4, a5, a6, a7, a8, a9, a10, a11⟩, af⟩ := cells12 (blk_new w (.cells (N12 4 n s r t (.slice p m c)) 28))
  have hE0 := (hE.next hb0).f.env
  have HC := show_bad 4 n nul _ rfl rfl rfl rfl hE0
  have ht : badText n = ⟨(badT n).toArray⟩ := by
    have hc : n = 1 ∨ n = 2 ∨ n = 3 ∨ n = 4 ∨ n = 5 ∨ n = 6 := by omega
    rcases hc with rfl | rfl | rfl | rfl | rfl | rfl <;> rfl
  rw [ht] at HC
  clear ht hE hE0
  go_enter Tryz.func146, Tryz.ntmps146
  go_wp2_with fail
  refine HC.mono ?_
  rintro e w1 ⟨rfl, hb1⟩
  go_wp2_with fail
  go_ret
  exact ⟨rfl, bnext hb0 hb1 hb0.size⟩
theorem leaf_ref (n : Int) (s : ByteArray) (r t : Rf) (p : Option Addr) (m c : Nat) (w : World) (h : adr.isC r.c r.r = true) :
    Calls Tryz.prog 146 #[NV 5 n s r t (.slice p m c)] w fun e w' => e = .returned (.string ⟨(ink.ref r).toArray⟩) ∧ Below w.heap.size w w' := by
  have hb0 : Below w.heap.size w (w.alloc (.cells (N12 5 n s r t (.slice p m c)) 28)) := (Below.refl _ _).alloc (Nat.le_refl _) _
  obtain ⟨⟨a0, a1, a2, a3, a4, a5, a6, a7, a8, a9, a10, a11⟩, af⟩ := cells12 (blk_new w (.cells (N12 5 n s r t (.slice p m c)) 28))
  have HC := fun w => refText_any r w h
  clear h
  go_enter Tryz.func146, Tryz.ntmps146
  go_wp2_with fail
  refine (HC _).mono ?_
  rintro e w1 ⟨rfl, hb1⟩
  go_wp2_with fail
  go_ret
  exact ⟨rfl, bnext hb0 hb1 hb0.size⟩
theorem ref_size (r : Rf) (h : adr.isC r.c r.r = true) : (⟨(ink.ref r).toArray⟩ : ByteArray).size ≤ 10 := by
  have e := adr.nm_list r.fc r.fr h
  obtain ⟨⟨h1, h2⟩, h3, h4⟩ := adr.isC_iff.1 h
  have h5 := adr.it_len (r := r.r.toNat) (by omega)
  show (ink.ref r).toArray.size ≤ 10
  unfold ink dollar
  simp only [List.size_toArray, List.length_append, List.length_cons]
  split <;> split <;> simp <;> omega
end Go.Proofs.YtoaejcppfmjhdaaGreatDoor.fm
/- The text of a box. Condition: its refs are cells. -/
namespace Go.Proofs.YtoaejcppfmjhdaaGreatDoor.fm
open Go.RowKit
/-- A node in its block, its refs opened. -/
abbrev Op8 (w : World) (k n : Int) (s : ByteArray) (r t : Rf) (v : Value) (wx : World) : Prop :=
  wx.cell? ⟨w.heap.size, 3, none⟩ = some (.int .i64 r.c) ∧ wx.cell? ⟨w.heap.size, 4, none⟩ = some (.int .i64 r.r) ∧ wx.cell? ⟨w.heap.size, 5, none⟩ = some (.bool r.fc) ∧ wx.cell? ⟨w.heap.size, 6, none⟩ = some (.bool r.fr) ∧ wx.cell? ⟨w.heap.size, 7, none⟩ = some (.int .i64 t.c) ∧ wx.cell? ⟨w.heap.size, 8, none⟩ = some (.int .i64 t.r) ∧ wx.cell? ⟨w.heap.size, 9, none⟩ = some (.bool t.fc) ∧ wx.cell? ⟨w.heap.size, 10, none⟩ = some (.bool t.fr) ∧ OB w w (N12 k n s r t v) wx
theorem Op8.mk {w : World} {k n : Int} {s : ByteArray} {r t : Rf} {v : Value} {wx : World} (h : OB w w (N12 k n s r t v) wx) : Op8 w k n s r t v wx := by
  obtain ⟨⟨a0, a1, a2, a3, a4, a5, a6, a7, a8, a9, a10, a11⟩, af⟩ := cells12 h.a
  exact ⟨a3, a4, a5, a6, a7, a8, a9, a10, h⟩
theorem op8_below {w : World} {k n : Int} {s : ByteArray} {r t : Rf} {v : Value} {wx wy : World} (h : Op8 w k n s r t v wx) (hb : Below wx.heap.size wx wy) : Op8 w k n s r t v wy :=
  .mk (h.2.2.2.2.2.2.2.2.next hb)
theorem op8_end {w : World} {k n : Int} {s : ByteArray} {r t : Rf} {v : Value} {wx : World} (h : Op8 w k n s r t v wx) : Below w.heap.size w wx := h.2.2.2.2.2.2.2.2.below
set_option maxHeartbeats 4000000 in
set_option maxRecDepth 100000 in
theorem leaf_box (n : Int) (s : ByteArray) (r t : Rf) (p : Option Addr) (m c : Nat) (w : World) (h : adr.isC r.c r.r = true) (h2 : adr.isC t.c t.r = true) :
    Calls Tryz.prog 146 #[NV 6 n s r t (.slice p m c)] w fun e w' => e = .returned (.string ⟨(ink.ref r ++ 58 :: ink.ref t).toArray⟩) ∧ Below w.heap.size w w' := by
  have hb0 : Below w.heap.size w (w.alloc (.cells (N12 6 n s r t (.slice p m c)) 28)) := (Below.refl _ _).alloc (Nat.le_refl _) _
  have hq0 := blk_new w (.cells (N12 6 n s r t (.slice p m c)) 28)
  obtain ⟨⟨a0, a1, a2, a3, a4, a5, a6, a7, a8, a9, a10, a11⟩, af⟩ := cells12 hq0
  have z1 := ref_size r h
  have z2 := ref_size t h2
  have HC1 : Hid (∀ w, Calls Tryz.prog 229 #[RV r] w fun e w' => e = .returned (.string ⟨(ink.ref r).toArray⟩) ∧ Below w.heap.size w w') := fun w => refText_any r w h
  have HC2 : Hid (∀ w, Calls Tryz.prog 229 #[RV t] w fun e w' => e = .returned (.string ⟨(ink.ref t).toArray⟩) ∧ Below w.heap.size w w') := fun w => refText_any t w h2
  have HR : Hid (((⟨(ink.ref r).toArray⟩ : ByteArray) ++ ⟨#[58]⟩) ++ ⟨(ink.ref t).toArray⟩ = ⟨(ink.ref r ++ 58 :: ink.ref t).toArray⟩) := by
    unfold Hid
    apply ByteArray.ext
    simp [ByteArray.data_append]
  obtain ⟨D, hD⟩ : ∃ D : ByteArray, ⟨(ink.ref r).toArray⟩ = D := ⟨_, rfl⟩
  obtain ⟨E, hE⟩ : ∃ E : ByteArray, ⟨(ink.ref t).toArray⟩ = E := ⟨_, rfl⟩
  rw [hD] at HC1 HR z1
  rw [hE] at HC2 HR z2
  clear hD hE h h2
  have q0 : (⟨#[58]⟩ : ByteArray).size = 1 := rfl
  have q1 : ¬ 9223372036854775807 < D.size + (⟨#[58]⟩ : ByteArray).size := by omega
  have q2 : ¬ 9223372036854775807 < D.size + (⟨#[58]⟩ : ByteArray).size + E.size := by omega
  have q3 : ¬ 9223372036854775807 < D.size + 1 := by omega
  have q4 : ¬ 9223372036854775807 < D.size + 1 + E.size := by omega
  clear q0
  have h0d : Op8 w 6 n s r t (.slice p m c) (w.alloc (.cells (N12 6 n s r t (.slice p m c)) 28)).drew := Op8.mk (OB.start (Below.refl _ _) _).drew
  clear hq0 hb0
  go_enter Tryz.func146, Tryz.ntmps146
  go_wp2_with fail
  clear a0 a1 a2 a11 af
  generalize hw0 : w.alloc _ = w0 at *
  clear hw0
  go_region_held3 (fun wx => Op8 w 6 n s r t (.slice p m c) wx) (first | with_reducible exact h0d | with_reducible assumption | exact op8_below (by with_reducible assumption) (by with_reducible assumption)) (first | (go_at_call 229; with_reducible refine (HC1.out _).mono ?_; rintro e wa ⟨rfl, ha⟩) | (go_at_call 229; with_reducible refine (HC2.out _).mono ?_; rintro e wa ⟨rfl, ha⟩))
  all_goals
    go_wp2_with fail
    go_ret
    exact ⟨by rw [← HR.out]; rfl, op8_end (by assumption)⟩
end Go.Proofs.YtoaejcppfmjhdaaGreatDoor.fm
