
/- Numbers and texts turned into each other, what is bad by its text, Read and Show: what each returns. Conditions: the package variables hold what the program's text lays ('Env'). -/
import Derived.Test.YtnelglmbckgbgaaGreatDoorHold
import Derived.Test.YtnelglmbckgbgaaGreatDoorShg
import Derived.Test.YtnelglmbckgbgaaGreatDoorNum
import Derived.Lib.AppendIntMem
import Derived.Lib.SmallJoins
import Derived.WalkSmall
import Derived.LoopN
import Derived.Lib.AtoiAllCases
namespace Go.Proofs.YtnelglmbckgbgaaGreatDoor
open Go.RowKit
theorem gBad : Tryz.prog.globalNamed "sccsettle/value.badTexts" = some 1 := by kernel_rfl
theorem gPow : Tryz.prog.globalNamed "internal/strconv.uint64pow10" = some 3 := by kernel_rfl
abbrev bt0 : ByteArray := ⟨#[35, 68, 73, 86, 33]⟩
abbrev bt1 : ByteArray := ⟨#[35, 86, 65, 76, 85, 69, 33]⟩
abbrev bt2 : ByteArray := ⟨#[35, 82, 69, 70, 33]⟩
abbrev bt3 : ByteArray := ⟨#[35, 78, 65, 77, 69, 33]⟩
abbrev bt4 : ByteArray := ⟨#[35, 78, 85, 77, 33]⟩
abbrev bt5 : ByteArray := ⟨#[35, 78, 79, 78, 69, 33]⟩
/-- What the package variables hold. -/
structure Env (w : World) : Prop where
  size : 7 < w.heap.size
  tab : Lib.TabIs Tryz.prog w "internal/strconv.uint64pow10" .u64 Lib.pow10Tab
  bads : w.var? Tryz.prog "sccsettle/value.badTexts" = some #[.string bt0, .string bt1, .string bt2, .string bt3, .string bt4, .string bt5]
theorem Env.below {w w' : World} {B : Nat} (h : Env w) (hb : Below B w w') (hB : 7 < B) : Env w' :=
  ⟨Nat.lt_of_lt_of_le h.size hb.size, var?_below hb gPow (by omega) h.tab,
    var?_below hb gBad (by omega) h.bads⟩
theorem Env.next {w w' : World} (h : Env w) (hb : Below w.heap.size w w') : Env w' := h.below hb h.size
theorem Env.alloc {w : World} (h : Env w) (o : Obj) : Env (w.alloc o) := h.next ((Below.refl _ _).alloc (Nat.le_refl _) _)
theorem Env.cell {w : World} (h : Env w) : w.cell? ⟨1, 0, none⟩ = some (.string bt0) ∧ w.cell? ⟨1, 1, none⟩ = some (.string bt1) ∧ w.cell? ⟨1, 2, none⟩ = some (.string bt2) ∧ w.cell? ⟨1, 3, none⟩ = some (.string bt3) ∧ w.cell? ⟨1, 4, none⟩ = some (.string bt4) ∧ w.cell? ⟨1, 5, none⟩ = some (.string bt5) :=
  ⟨World.var?_cell gBad h.bads 0, World.var?_cell gBad h.bads 1, World.var?_cell gBad h.bads 2, World.var?_cell gBad h.bads 3, World.var?_cell gBad h.bads 4, World.var?_cell gBad h.bads 5⟩
/-- The text of a number. -/
def itoaB (n : Int) : ByteArray := ⟨(Lib.itoa n).toArray⟩
theorem itoa_any (n : Int) (w : World) (h0 : -9223372036854775808 ≤ n) (h1 : n ≤ 9223372036854775807) (hE : Env w) :
    Calls Tryz.prog 31 #[.int .i64 n] w fun e w' => e = .returned (.string (itoaB n)) ∧ Below w.heap.size w w' := by
  refine (Any.strconv_Itoa Tryz.laysM171 n h0 h1 w hE.tab).mono ?_
  rintro e w' ⟨rfl, k, os, rfl⟩
  exact ⟨rfl, Lib.below_grow _ w (Nat.le_refl _) k os⟩
/-- The number that a text is, if it is one. -/
def numOf (s : ByteArray) : Option Int :=
  match Lib.atoiAll s.data.toList with
  | .ok v => if Lib.itoa v = s.data.toList then some v else none
  | _ => none
theorem numOf_some {s : ByteArray} {v : Int} (h : numOf s = some v) : Lib.atoiAll s.data.toList = .ok v ∧ Lib.itoa v = s.data.toList := by
  unfold numOf at h
  split at h
  · rename_i u hu
    split at h
    · rename_i e; injection h with h; subst h; exact ⟨hu, e⟩
    · cases h
  · cases h
theorem atoi_bd {l : List UInt8} {v : Int} (h : Lib.atoiAll l = .ok v) : -9223372036854775808 ≤ v ∧ v ≤ 9223372036854775807 := Lib.atoiAll_bounds h
theorem toList_itoaB {n : Int} : (itoaB n).toList = Lib.itoa n := by rw [ByteArray.toList_eq]; rfl
/-- The number of what is bad, by its text; 0: none. -/
def badOf (s : ByteArray) : Int :=
  if s.toList == [35, 68, 73, 86, 33] then 1 else if s.toList == [35, 86, 65, 76, 85, 69, 33] then 2 else if s.toList == [35, 82, 69, 70, 33] then 3 else if s.toList == [35, 78, 65, 77, 69, 33] then 4 else if s.toList == [35, 78, 85, 77, 33] then 5 else if s.toList == [35, 78, 79, 78, 69, 33] then 6 else 0
/-- Texts of truths. -/
abbrev tT : ByteArray := ⟨#[84, 82, 85, 69]⟩
abbrev tF : ByteArray := ⟨#[70, 65, 76, 83, 69]⟩
def truText (n : Int) : ByteArray := if n = 0 then tF else tT
/-- The text of what is bad. -/
def badText (n : Int) : ByteArray := if n = 1 then bt0 else if n = 2 then bt1 else if n = 3 then bt2 else if n = 4 then bt3 else if n = 5 then bt4 else if n = 6 then bt5 else nul
/-- What Show shows. -/
def sh (k n : Int) (s : ByteArray) : ByteArray :=
  if k = 1 then itoaB n else if k = 2 then s else if k = 3 then truText n else if k = 4 then badText n else nul
theorem showTruth_any (n : Int) (w : World) :
    Calls Tryz.prog 32 #[.int .i64 n] w fun e w' => e = .returned (.string (truText n)) ∧ w' = w := by
  by_cases h : n = 0
  · have b : (n == 0) = true := beq_iff_eq.2 h
    rw [show truText n = tF from if_pos h]
    clear h
    go_enter Tryz.func32, Tryz.ntmps32
    go_wp2
    go_ret
    exact ⟨rfl, rfl⟩
  · have b : (n == 0) = false := beq_eq_false_iff_ne.2 h
    rw [show truText n = tT from if_neg h]
    clear h
    go_enter Tryz.func32, Tryz.ntmps32
    go_wp2
    go_ret
    exact ⟨rfl, rfl⟩
theorem showBad_1 (w : World) (hE : Env w) :
    Calls Tryz.prog 33 #[.int .i64 1] w fun e w' => e = .returned (.string bt0) ∧ w' = w := by
  obtain ⟨c0, c1, c2, c3, c4, c5⟩ := hE.cell
  go_enter Tryz.func33, Tryz.ntmps33
  go_wp2_with (go_at_call 46; refine (isBadNum_any _ _).mono ?_; rintro e w' ⟨rfl, rfl⟩)
  go_ret
  exact ⟨rfl, rfl⟩
theorem showBad_2 (w : World) (hE : Env w) :
    Calls Tryz.prog 33 #[.int .i64 2] w fun e w' => e = .returned (.string bt1) ∧ w' = w := by
  obtain ⟨c0, c1, c2, c3, c4, c5⟩ := hE.cell
  go_enter Tryz.func33, Tryz.ntmps33
  go_wp2_with (go_at_call 46; refine (isBadNum_any _ _).mono ?_; rintro e w' ⟨rfl, rfl⟩)
  go_ret
  exact ⟨rfl, rfl⟩
theorem showBad_3 (w : World) (hE : Env w) :
    Calls Tryz.prog 33 #[.int .i64 3] w fun e w' => e = .returned (.string bt2) ∧ w' = w := by
  obtain ⟨c0, c1, c2, c3, c4, c5⟩ := hE.cell
  go_enter Tryz.func33, Tryz.ntmps33
  go_wp2_with (go_at_call 46; refine (isBadNum_any _ _).mono ?_; rintro e w' ⟨rfl, rfl⟩)
  go_ret
  exact ⟨rfl, rfl⟩
theorem showBad_4 (w : World) (hE : Env w) :
    Calls Tryz.prog 33 #[.int .i64 4] w fun e w' => e = .returned (.string bt3) ∧ w' = w := by
  obtain ⟨c0, c1, c2, c3, c4, c5⟩ := hE.cell
  go_enter Tryz.func33, Tryz.ntmps33
  go_wp2_with (go_at_call 46; refine (isBadNum_any _ _).mono ?_; rintro e w' ⟨rfl, rfl⟩)
  go_ret
  exact ⟨rfl, rfl⟩
theorem showBad_5 (w : World) (hE : Env w) :
    Calls Tryz.prog 33 #[.int .i64 5] w fun e w' => e = .returned (.string bt4) ∧ w' = w := by
  obtain ⟨c0, c1, c2, c3, c4, c5⟩ := hE.cell
  go_enter Tryz.func33, Tryz.ntmps33
  go_wp2_with (go_at_call 46; refine (isBadNum_any _ _).mono ?_; rintro e w' ⟨rfl, rfl⟩)
  go_ret
  exact ⟨rfl, rfl⟩
theorem showBad_6 (w : World) (hE : Env w) :
    Calls Tryz.prog 33 #[.int .i64 6] w fun e w' => e = .returned (.string bt5) ∧ w' = w := by
  obtain ⟨c0, c1, c2, c3, c4, c5⟩ := hE.cell
  go_enter Tryz.func33, Tryz.ntmps33
  go_wp2_with (go_at_call 46; refine (isBadNum_any _ _).mono ?_; rintro e w' ⟨rfl, rfl⟩)
  go_ret
  exact ⟨rfl, rfl⟩
theorem showBad_none (n : Int) (w : World) (h : n < 1 ∨ 6 < n) :
    Calls Tryz.prog 33 #[.int .i64 n] w fun e w' => e = .returned (.string nul) ∧ w' = w := by
  have hb : (decide (1 ≤ n) && decide (n ≤ 6)) = false := by
    rw [Bool.eq_false_iff]; intro e; simp at e; omega
  have HB : Hid ((decide (1 ≤ n) && decide (n ≤ 6)) = false) := hb
  clear h hb
  go_enter Tryz.func33, Tryz.ntmps33
  go_wp2_with fail
  refine (isBadNum_any _ _).mono ?_
  rintro e w' ⟨rfl, rfl⟩
  rw [HB.out]
  go_wp2
  go_ret
  exact ⟨rfl, rfl⟩
theorem showBad_any (n : Int) (w : World) (hE : Env w) :
    Calls Tryz.prog 33 #[.int .i64 n] w fun e w' => e = .returned (.string (badText n)) ∧ w' = w := by
  unfold badText
  by_cases h0 : n = 1
  · rw [if_pos h0, h0]
    exact showBad_1 w hE
  by_cases h1 : n = 2
  · rw [if_neg h0, if_pos h1, h1]
    exact showBad_2 w hE
  by_cases h2 : n = 3
  · rw [if_neg h0, if_neg h1, if_pos h2, h2]
    exact showBad_3 w hE
  by_cases h3 : n = 4
  · rw [if_neg h0, if_neg h1, if_neg h2, if_pos h3, h3]
    exact showBad_4 w hE
  by_cases h4 : n = 5
  · rw [if_neg h0, if_neg h1, if_neg h2, if_neg h3, if_pos h4, h4]
    exact showBad_5 w hE
  by_cases h5 : n = 6
  · rw [if_neg h0, if_neg h1, if_neg h2, if_neg h3, if_neg h4, if_pos h5, h5]
    exact showBad_6 w hE
  rw [if_neg h0, if_neg h1, if_neg h2, if_neg h3, if_neg h4, if_neg h5]
  exact showBad_none n w (by omega)
set_option maxHeartbeats 1000000 in
theorem show_num (k n : Int) (s : ByteArray) (w : World) (hk : (k == 1) = true) (h0 : -9223372036854775808 ≤ n) (h1 : n ≤ 9223372036854775807) (hE : Env w) :
    Calls Tryz.prog 19 #[V k n s] w fun e w' => e = .returned (.string (itoaB n)) ∧ Below w.heap.size w w' := by
  go_enter Tryz.func19, Tryz.ntmps19
  go_wp2_with fail
  refine (itoa_any n _ h0 h1 (hE.alloc _)).mono ?_
  rintro e w1 ⟨rfl, b1⟩
  go_wp2_with fail
  go_ret
  exact ⟨rfl, bnext ((Below.refl _ _).alloc (Nat.le_refl _) _) b1 (by simp)⟩
set_option maxHeartbeats 1000000 in
theorem show_txt (k n : Int) (s : ByteArray) (w : World) (h1 : (k == 1) = false) (h2 : (k == 2) = true) :
    Calls Tryz.prog 19 #[V k n s] w fun e w' => e = .returned (.string s) ∧ Below w.heap.size w w' := by
  go_enter Tryz.func19, Tryz.ntmps19
  go_wp2
  go_ret
  exact ⟨rfl, (Below.refl _ _).alloc (Nat.le_refl _) _⟩
set_option maxHeartbeats 1000000 in
theorem show_tru (k n : Int) (s : ByteArray) (w : World) (h1 : (k == 1) = false) (h2 : (k == 2) = false) (h3 : (k == 3) = true) :
    Calls Tryz.prog 19 #[V k n s] w fun e w' => e = .returned (.string (truText n)) ∧ Below w.heap.size w w' := by
  go_enter Tryz.func19, Tryz.ntmps19
  go_wp2_with fail
  refine (showTruth_any _ _).mono ?_
  rintro e w1 ⟨rfl, rfl⟩
  go_wp2_with fail
  go_ret
  exact ⟨rfl, (Below.refl _ _).alloc (Nat.le_refl _) _⟩
set_option maxHeartbeats 1000000 in
theorem show_bad (k n : Int) (s : ByteArray) (w : World) (h1 : (k == 1) = false) (h2 : (k == 2) = false) (h3 : (k == 3) = false) (h4 : (k == 4) = true) (hE : Env w) :
    Calls Tryz.prog 19 #[V k n s] w fun e w' => e = .returned (.string (badText n)) ∧ Below w.heap.size w w' := by
  go_enter Tryz.func19, Tryz.ntmps19
  go_wp2_with fail
  refine (showBad_any _ _ (hE.alloc _)).mono ?_
  rintro e w1 ⟨rfl, rfl⟩
  go_wp2_with fail
  go_ret
  exact ⟨rfl, (Below.refl _ _).alloc (Nat.le_refl _) _⟩
set_option maxHeartbeats 1000000 in
theorem show_none (k n : Int) (s : ByteArray) (w : World) (h1 : (k == 1) = false) (h2 : (k == 2) = false) (h3 : (k == 3) = false) (h4 : (k == 4) = false) :
    Calls Tryz.prog 19 #[V k n s] w fun e w' => e = .returned (.string nul) ∧ Below w.heap.size w w' := by
  go_enter Tryz.func19, Tryz.ntmps19
  go_wp2
  go_ret
  exact ⟨rfl, (Below.refl _ _).alloc (Nat.le_refl _) _⟩
theorem show_any (k n : Int) (s : ByteArray) (w : World) (hE : Env w) (h0 : -9223372036854775808 ≤ n) (h1 : n ≤ 9223372036854775807) :
    Calls Tryz.prog 19 #[V k n s] w fun e w' => e = .returned (.string (sh k n s)) ∧ Below w.heap.size w w' := by
  unfold sh
  by_cases k1 : k = 1
  · rw [if_pos k1]; exact show_num k n s w (beq_iff_eq.2 k1) h0 h1 hE
  by_cases k2 : k = 2
  · rw [if_neg k1, if_pos k2]; exact show_txt k n s w (beq_eq_false_iff_ne.2 k1) (beq_iff_eq.2 k2)
  by_cases k3 : k = 3
  · rw [if_neg k1, if_neg k2, if_pos k3]; exact show_tru k n s w (beq_eq_false_iff_ne.2 k1) (beq_eq_false_iff_ne.2 k2) (beq_iff_eq.2 k3)
  by_cases k4 : k = 4
  · rw [if_neg k1, if_neg k2, if_neg k3, if_pos k4]; exact show_bad k n s w (beq_eq_false_iff_ne.2 k1) (beq_eq_false_iff_ne.2 k2) (beq_eq_false_iff_ne.2 k3) (beq_iff_eq.2 k4) hE
  rw [if_neg k1, if_neg k2, if_neg k3, if_neg k4]
  exact show_none k n s w (beq_eq_false_iff_ne.2 k1) (beq_eq_false_iff_ne.2 k2) (beq_eq_false_iff_ne.2 k3) (beq_eq_false_iff_ne.2 k4)
end Go.Proofs.YtnelglmbckgbgaaGreatDoor
