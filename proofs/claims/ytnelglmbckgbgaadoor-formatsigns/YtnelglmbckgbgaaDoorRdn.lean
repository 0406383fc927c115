/- Numbers and texts turned into each other, and Read of a number's text. Conditions: the package variables hold what the program's text lays ('Env'). -/
import Derived.Test.YtnelglmbckgbgaaDoorHold
import Derived.Test.YtnelglmbckgbgaaDoorShg
import Derived.Test.YtnelglmbckgbgaaDoorNum
import Derived.Lib.AppendIntMem
import Derived.Lib.SmallJoins
import Derived.WalkSmall
import Derived.LoopN
import Derived.Lib.AtoiAllCases
namespace Go.Proofs.YtnelglmbckgbgaaDoor
open Go.RowKit
/-- A value of package api, as the model has it. -/
abbrev V (k n : Int) (s : ByteArray) : Value := .agg #[.int .i64 k, .int .i64 n, .string s]
/-- A value lies in a block of its own. -/
structure Has (w : World) (b : Nat) (k n : Int) (s : ByteArray) : Prop where
  lt : b < w.heap.size
  c0 : w.cell? ⟨b, 0, none⟩ = some (.int .i64 k)
  c1 : w.cell? ⟨b, 1, none⟩ = some (.int .i64 n)
  c2 : w.cell? ⟨b, 2, none⟩ = some (.string s)
theorem Has.below {w w' : World} {b : Nat} {k n : Int} {s : ByteArray} (h : Has w b k n s) (hb : Below w.heap.size w w') : Has w' b k n s :=
  ⟨Nat.lt_of_lt_of_le h.lt hb.size, by rw [hb.cell h.lt]; exact h.c0, by rw [hb.cell h.lt]; exact h.c1, by rw [hb.cell h.lt]; exact h.c2⟩
theorem Has.alloc {w : World} {b : Nat} {k n : Int} {s : ByteArray} (h : Has w b k n s) (o : Obj) : Has (w.alloc o) b k n s :=
  h.below ((Below.refl _ _).alloc (Nat.le_refl _) _)
theorem Has.drew {w : World} {b : Nat} {k n : Int} {s : ByteArray} (h : Has w b k n s) : Has w.drew b k n s := ⟨h.lt, h.c0, h.c1, h.c2⟩
theorem Has.new (w : World) (k n : Int) (s : ByteArray) (t : TypeId) : Has (w.alloc (.cells #[.int .i64 k, .int .i64 n, .string s] t)) w.heap.size k n s :=
  ⟨by simp, by simp, by simp, by simp⟩
theorem gBad : Tryd.prog.globalNamed "sccsettle/value.badTexts" = some 0 := by kernel_rfl
theorem gSyn : Tryd.prog.globalNamed "strconv.ErrSyntax" = some 3 := by kernel_rfl
theorem gRan : Tryd.prog.globalNamed "strconv.ErrRange" = some 4 := by kernel_rfl
theorem gPow : Tryd.prog.globalNamed "internal/strconv.uint64pow10" = some 5 := by kernel_rfl
abbrev bt0 : ByteArray := ⟨#[35, 68, 73, 86, 33]⟩
abbrev bt1 : ByteArray := ⟨#[35, 86, 65, 76, 85, 69, 33]⟩
abbrev bt2 : ByteArray := ⟨#[35, 82, 69, 70, 33]⟩
abbrev bt3 : ByteArray := ⟨#[35, 78, 65, 77, 69, 33]⟩
abbrev bt4 : ByteArray := ⟨#[35, 78, 85, 77, 33]⟩
abbrev bt5 : ByteArray := ⟨#[35, 78, 79, 78, 69, 33]⟩
/-- What the package variables hold. -/
structure Env (w : World) : Prop where
  size : 5 < w.heap.size
  tab : Lib.TabIs Tryd.prog w "internal/strconv.uint64pow10" .u64 Lib.pow10Tab
  syn : ∃ (tp : TypeId) (p : Value), w.var? Tryd.prog "strconv.ErrSyntax" = some #[.iface tp p]
  ran : ∃ (tp : TypeId) (p : Value), w.var? Tryd.prog "strconv.ErrRange" = some #[.iface tp p]
  bads : w.var? Tryd.prog "sccsettle/value.badTexts" = some #[.string bt0, .string bt1, .string bt2, .string bt3, .string bt4, .string bt5]
theorem Env.below {w w' : World} {B : Nat} (h : Env w) (hb : Below B w w') (hB : 5 < B) : Env w' :=
  ⟨Nat.lt_of_lt_of_le h.size hb.size, var?_below hb gPow (by omega) h.tab,
    h.syn.elim fun tp e => e.elim fun p e => ⟨tp, p, var?_below hb gSyn (by omega) e⟩,
    h.ran.elim fun tp e => e.elim fun p e => ⟨tp, p, var?_below hb gRan (by omega) e⟩,
    var?_below hb gBad (by omega) h.bads⟩
theorem Env.next {w w' : World} (h : Env w) (hb : Below w.heap.size w w') : Env w' := h.below hb h.size
theorem Env.alloc {w : World} (h : Env w) (o : Obj) : Env (w.alloc o) := h.next ((Below.refl _ _).alloc (Nat.le_refl _) _)
theorem Env.cell {w : World} (h : Env w) : w.cell? ⟨0, 0, none⟩ = some (.string bt0) ∧ w.cell? ⟨0, 1, none⟩ = some (.string bt1) ∧ w.cell? ⟨0, 2, none⟩ = some (.string bt2) ∧ w.cell? ⟨0, 3, none⟩ = some (.string bt3) ∧ w.cell? ⟨0, 4, none⟩ = some (.string bt4) ∧ w.cell? ⟨0, 5, none⟩ = some (.string bt5) :=
  ⟨World.var?_cell gBad h.bads 0, World.var?_cell gBad h.bads 1, World.var?_cell gBad h.bads 2, World.var?_cell gBad h.bads 3, World.var?_cell gBad h.bads 4, World.var?_cell gBad h.bads 5⟩
/-- The text of a number. -/
def itoaB (n : Int) : ByteArray := ⟨(Lib.itoa n).toArray⟩
theorem itoa_any (n : Int) (w : World) (h0 : -9223372036854775808 ≤ n) (h1 : n ≤ 9223372036854775807) (hE : Env w) :
    Calls Tryd.prog 37 #[.int .i64 n] w fun e w' => e = .returned (.string (itoaB n)) ∧ Below w.heap.size w w' := by
  refine (Any.strconv_Itoa Tryd.laysM171 n h0 h1 w hE.tab).mono ?_
  rintro e w' ⟨rfl, k, os, rfl⟩
  exact ⟨rfl, Lib.below_grow _ w (Nat.le_refl _) k os⟩
theorem atoi_yes (s : ByteArray) (v : Int) (w : World) (hs : s.size ≤ 200) (h : Lib.atoiAll s.data.toList = .ok v) :
    Calls Tryd.prog 42 #[.string s] w fun e w' => e = .returned (.tuple #[.int .i64 v, .nilIface]) ∧ Below w.heap.size w w' := by
  refine (Any.strconv_Atoi_ok Tryd.laysC172 s (by omega) v h w).mono ?_
  rintro e w' ⟨rfl, hw⟩
  rcases hw with rfl | ⟨t, rfl⟩
  · exact ⟨rfl, Below.refl _ _⟩
  · exact ⟨rfl, Joins.below_bytesWorld _ _ _ _ (Nat.le_refl _)⟩
theorem atoi_no (s : ByteArray) (w : World) (hs : s.size ≤ 200) (h : ∀ v, Lib.atoiAll s.data.toList ≠ .ok v) (hE : Env w) :
    Calls Tryd.prog 42 #[.string s] w fun e w' => (∃ (m : Int) (N : Nat), e = .returned (.tuple #[.int .i64 m, .iface 126 (.pointer (some ⟨N, 0, none⟩))])) ∧ Below w.heap.size w w' := by
  obtain ⟨tp, p, hv⟩ := hE.syn
  obtain ⟨tp2, p2, hv2⟩ := hE.ran
  cases hh : Lib.atoiAll s.data.toList with
  | ok v => exact absurd hh (h v)
  | range =>
    refine (Any.strconv_Atoi_range_var Tryd.laysC172 s (by omega) hh tp2 p2 w hv2).mono ?_
    rintro e w' ⟨N, rfl, _, _, hb⟩
    exact ⟨⟨_, N, rfl⟩, hb⟩
  | _ =>
    refine (Any.strconv_Atoi_syntax_var Tryd.laysC172 s (by omega) hh tp p w hv).mono ?_
    rintro e w' ⟨N, rfl, _, _, hb⟩
    exact ⟨⟨_, N, rfl⟩, hb⟩
/-- The number that a text is, if it is one. -/
def numOf (s : ByteArray) : Option Int :=
  match Lib.atoiAll s.data.toList with
  | .ok v => if Lib.itoa v = s.data.toList then some v else none
  | _ => none
theorem numOf_some {s : ByteArray} {v : Int} (h : numOf s = some v) : Lib.atoiAll s.data.toList = .ok v ∧ Lib.itoa v = s.data.toList := by
  unfold numOf at h
  split at h
  · rename_i u hu
    split at h
    · rename_i e; injection h with h; subst h; exact ⟨hu, e⟩
    · cases h
  · cases h
theorem atoi_bd {l : List UInt8} {v : Int} (h : Lib.atoiAll l = .ok v) : -9223372036854775808 ≤ v ∧ v ≤ 9223372036854775807 := Lib.atoiAll_bounds h
theorem toList_itoaB {n : Int} : (itoaB n).toList = Lib.itoa n := by rw [ByteArray.toList_eq]; rfl
set_option maxHeartbeats 1000000 in
theorem readNumber_yes (s : ByteArray) (v : Int) (w : World) (hs : s.size ≤ 200) (hE : Env w) (h : numOf s = some v) :
    Calls Tryd.prog 20 #[.string s] w fun e w' => e = .returned (.tuple #[.int .i64 v, .bool true]) ∧ Below w.heap.size w w' := by
  obtain ⟨ha, hi⟩ := numOf_some h
  obtain ⟨h0, h1⟩ := atoi_bd ha
  have HA : Hid (Lib.atoiAll s.data.toList = .ok v) := ha
  have heq : ((itoaB v).toList == s.toList) = true := by rw [toList_itoaB, ByteArray.toList_eq, hi]; simp
  clear h ha hi
  go_enter Tryd.func20, Tryd.ntmps20
  go_wp2_with fail
  refine (atoi_yes s v _ hs HA.out).mono ?_
  rintro e w1 ⟨rfl, b1⟩
  have hE1 := hE.next b1
  go_wp2_with fail
  refine (itoa_any v _ h0 h1 hE1).mono ?_
  rintro e w2 ⟨rfl, b2⟩
  go_wp2_with fail
  go_ret2
  exact ⟨rfl, bnext b1 b2 b1.size⟩
set_option maxHeartbeats 1000000 in
theorem readNumber_off (s : ByteArray) (v : Int) (w : World) (hs : s.size ≤ 200) (hE : Env w) (ha : Lib.atoiAll s.data.toList = .ok v) (hi : ¬ Lib.itoa v = s.data.toList) :
    Calls Tryd.prog 20 #[.string s] w fun e w' => e = .returned (.tuple #[.int .i64 0, .bool false]) ∧ Below w.heap.size w w' := by
  obtain ⟨h0, h1⟩ := atoi_bd ha
  have HA : Hid (Lib.atoiAll s.data.toList = .ok v) := ha
  have heq : ((itoaB v).toList == s.toList) = false := by rw [toList_itoaB, ByteArray.toList_eq]; exact beq_eq_false_iff_ne.2 hi
  clear ha hi
  go_enter Tryd.func20, Tryd.ntmps20
  go_wp2_with fail
  refine (atoi_yes s v _ hs HA.out).mono ?_
  rintro e w1 ⟨rfl, b1⟩
  have hE1 := hE.next b1
  go_wp2_with fail
  refine (itoa_any v _ h0 h1 hE1).mono ?_
  rintro e w2 ⟨rfl, b2⟩
  go_wp2_with fail
  go_ret2
  exact ⟨rfl, bnext b1 b2 b1.size⟩
set_option maxHeartbeats 1000000 in
theorem readNumber_bad (s : ByteArray) (w : World) (hs : s.size ≤ 200) (hE : Env w) (h : ∀ v, Lib.atoiAll s.data.toList ≠ .ok v) :
    Calls Tryd.prog 20 #[.string s] w fun e w' => e = .returned (.tuple #[.int .i64 0, .bool false]) ∧ Below w.heap.size w w' := by
  have HA : Hid (∀ v, Lib.atoiAll s.data.toList ≠ .ok v) := h
  clear h
  go_enter Tryd.func20, Tryd.ntmps20
  go_wp2_with fail
  refine (atoi_no s _ hs HA.out hE).mono ?_
  rintro e w1 ⟨⟨m, N, rfl⟩, b1⟩
  go_wp2_with fail
  go_ret2
  exact ⟨rfl, b1⟩
theorem readNumber_no (s : ByteArray) (w : World) (hs : s.size ≤ 200) (hE : Env w) (h : numOf s = none) :
    Calls Tryd.prog 20 #[.string s] w fun e w' => e = .returned (.tuple #[.int .i64 0, .bool false]) ∧ Below w.heap.size w w' := by
  by_cases a : ∃ v, Lib.atoiAll s.data.toList = .ok v
  · obtain ⟨v, hv⟩ := a
    refine readNumber_off s v w hs hE hv ?_
    intro e
    unfold numOf at h
    rw [hv] at h
    simp [e] at h
  · exact readNumber_bad s w hs hE fun v e => a ⟨v, e⟩
theorem number_any (n : Int) (w : World) :
    Calls Tryd.prog 21 #[.int .i64 n] w fun e w' => e = .returned (V 1 n nul) ∧ Below w.heap.size w w' := by
  go_enter Tryd.func21, Tryd.ntmps21
  go_wp2
  exact bodyPost_ret (v := V 1 n nul) (by simp [results, Tryd.results21, go_sem]) rfl ⟨rfl, (Below.refl _ _).alloc (Nat.le_refl _) _⟩
/-- A block of the call's own that a value may be written into. -/
structure Cell3 (w0 : World) (b : Nat) (w : World) : Prop where
  mine : Mine w b
  has : Has w b 0 0 nul
  below : Below w0.heap.size w0 w
  le : w0.heap.size ≤ b
theorem Cell3.next {w0 : World} {b : Nat} {w w' : World} (h : Cell3 w0 b w) (hb : Below w.heap.size w w') : Cell3 w0 b w' :=
  ⟨h.mine.below hb, h.has.below hb, bnext h.below hb h.below.size, h.le⟩
theorem Cell3.start (w : World) (t : TypeId) : Cell3 w w.heap.size (w.alloc (.cells #[.int .i64 0, .int .i64 0, .string nul] t)) :=
  ⟨Mine.new _ _ _, Has.new _ _ _ _ _, (Below.refl _ _).alloc (Nat.le_refl _) _, Nat.le_refl _⟩
set_option maxHeartbeats 1000000 in
theorem read_num (s : ByteArray) (h0 : s.toList.isEmpty = false) (h1 : (s.size : Int) ≤ 200) (v : Int) (hn : numOf s = some v) (w : World) (hE : Env w) :
    Calls Tryd.prog 13 #[.string s] w fun e w' => e = .returned (V 1 v nul) ∧ Below w.heap.size w w' := by
  have hs : s.size ≤ 200 := by omega
  have HN : Hid (numOf s = some v) := hn
  clear hn
  have hC := Cell3.start w 35
  have hE0 := hE.alloc (.cells #[.int .i64 0, .int .i64 0, .string nul] 35)
  go_enter Tryd.func13, Tryd.ntmps13
  go_wp2_with fail
  refine (readNumber_yes s v _ hs hE0 HN.out).mono ?_
  rintro e w1 ⟨rfl, b1⟩
  replace hC := hC.next b1
  go_wp2_with fail
  refine (number_any _ _).mono ?_
  rintro e w2 ⟨rfl, b2⟩
  replace hC := hC.next b2
  obtain ⟨⟨_, hf⟩, ⟨_, c0, c1, c2⟩, hB, hle⟩ := hC
  go_wp2_with fail
  exact bodyPost_ret (v := V 1 v nul) (by simp [results, Tryd.results13, go_sem, c0, c1, c2]) rfl ⟨rfl, by (repeat (first | exact Below.refl _ _ | assumption | (refine Below.setCell ?_ (by first | omega | (simp <;> omega)) _) | (refine Below.alloc ?_ (by first | omega | (simp <;> omega)) _) | (refine Below.drew ?_) | (refine Below.trans ?_ (Below.mono (by assumption) (by first | omega | (simp <;> omega))))))⟩
theorem numOf_itoa (n : Int) (h0 : -9223372036854775808 ≤ n) (h1 : n ≤ 9223372036854775807) : numOf (itoaB n) = some n := by
  unfold numOf
  have e : (itoaB n).data.toList = Lib.itoa n := rfl
  rw [e, atoi_itoa n h0 h1]
  simp
end Go.Proofs.YtnelglmbckgbgaaDoor
