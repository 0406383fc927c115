
/- Package value: values held against each other, and whether one is a value. Conditions: as each theorem says. -/
import Derived.Test.YtehamdkjdbaceaaDoorRows
import Derived.WalkKit
import Derived.ProofKit
import Derived.WalkSpells
import Derived.WalkLawsBesides
import Derived.Below
import Derived.Lib.Bytealg
import Derived.Lib.Walk
import Derived.Deep.DeepCutAuto
import Derived.Deep.RegionHeld3
import Derived.Sort.Grow
namespace Go.Proofs.YtehamdkjdbaceaaDoor.so
open Go.RowKit Go.Sort
abbrev nul : ByteArray := ⟨#[]⟩
/-- A value of package api, as the model has it. -/
abbrev V (k n : Int) (s : ByteArray) : Value := .agg #[.int .i64 k, .int .i64 n, .string s]
theorem bcell {W w1 : World} (hb : Below W.heap.size W w1) : (∀ b o, b < W.heap.size → w1.cell? ⟨b, o, none⟩ = W.cell? ⟨b, o, none⟩) ∧ (∀ b o, b < W.heap.size → w1.frozen? ⟨b, o, none⟩ = W.frozen? ⟨b, o, none⟩) :=
  ⟨fun b o h => hb.cell (p := ⟨b, o, none⟩) h, fun b o h => hb.frozen (p := ⟨b, o, none⟩) h⟩
theorem bnext {B : Nat} {w x y : World} (h : Below B w x) (h2 : Below x.heap.size x y) (hB : B ≤ x.heap.size) : Below B w y := h.trans (h2.mono hB)
theorem bnew {B : Nat} {w x y : World} (h : Below B w x) (h2 : Below x.heap.size x y) (hB : B ≤ x.heap.size) (o : Obj) : Below B w (y.alloc o) := (bnext h h2 hB).alloc (Nat.le_trans hB h2.size) _
/-- Draws and new blocks, nothing else. -/
def Gr (w w' : World) : Prop := ∃ (q : Nat) (os : Array Obj), w' = grow (w.drewN q) os
theorem Gr.refl (w : World) : Gr w w := ⟨0, #[], by rw [grow_empty]; rfl⟩
theorem Gr.trans {a b c : World} (h : Gr a b) (h2 : Gr b c) : Gr a c := by
  obtain ⟨q, os, rfl⟩ := h
  obtain ⟨q', os', rfl⟩ := h2
  refine ⟨q + q', os ++ os', ?_⟩
  unfold grow World.drewN
  simp [Array.append_assoc, Nat.add_assoc]
theorem Gr.alloc {a b : World} (h : Gr a b) (o : Obj) : Gr a (b.alloc o) := h.trans ⟨0, #[o], by rw [alloc_eq_grow]; rfl⟩
theorem Gr.drew {a b : World} (h : Gr a b) : Gr a b.drew := h.trans ⟨1, #[], by rw [grow_empty]; rfl⟩
theorem Gr.below {a b : World} (h : Gr a b) : Below a.heap.size a b := by
  obtain ⟨q, os, rfl⟩ := h
  refine ⟨rfl, rfl, rfl, by simp [grow, World.drewN], fun k hk => ?_⟩
  simp only [grow, World.drewN]
  rw [Array.getElem?_append_left hk]
def cmpI (a b : Int) : Int := if a < b then -1 else if b < a then 1 else 0
abbrev cmpS (a b : ByteArray) : Int := Lib.compareBytes a.data.toList b.data.toList
theorem cmpInt_any (a b : Int) (w : World) :
    Calls Tryd.prog 46 #[.int .i64 a, .int .i64 b] w fun e w' => e = .returned (.int .i64 (cmpI a b)) ∧ w' = w := by
  by_cases h : a < b
  · have e1 : cmpI a b = -1 := by unfold cmpI; rw [if_pos h]
    rw [e1]
    go_enter Tryd.func46, Tryd.ntmps46
    go_wp2
    go_ret
    exact ⟨rfl, rfl⟩
  · by_cases h2 : b < a
    · have e1 : cmpI a b = 1 := by unfold cmpI; rw [if_neg h, if_pos h2]
      rw [e1]
      go_enter Tryd.func46, Tryd.ntmps46
      go_wp2
      go_ret
      exact ⟨rfl, rfl⟩
    · have e1 : cmpI a b = 0 := by unfold cmpI; rw [if_neg h, if_neg h2]
      rw [e1]
      go_enter Tryd.func46, Tryd.ntmps46
      go_wp2
      go_ret
      exact ⟨rfl, rfl⟩
set_option maxRecDepth 100000 in
theorem cmpString_any (a b : ByteArray) (w : World) :
    Calls Tryd.prog 54 #[.string a, .string b] w fun e w' => e = .returned (.int .i64 (cmpS a b)) ∧ w' = w := by
  go_enter Tryd.func54, Tryd.ntmps54
  go_wp2
  rw [run_callFunc_extern Tryd.func56 (by kernel_rfl) (by kernel_rfl) (by kernel_rfl) (e := Extern.BytealgCompare.compare) (by kernel_rfl), Lib.run_compareString]
  simp only [Result.andThen]
  rw [Oper.upon_value]
  go_wp2
  go_ret
  exact ⟨rfl, rfl⟩
theorem stringsCompare_any (a b : ByteArray) (w : World) :
    Calls Tryd.prog 47 #[.string a, .string b] w fun e w' => e = .returned (.int .i64 (cmpS a b)) ∧ w' = w := by
  go_enter Tryd.func47, Tryd.ntmps47
  go_wp2_with (go_at_call 54; refine (cmpString_any _ _ _).mono ?_; rintro e w' ⟨rfl, rfl⟩)
  go_ret
  exact ⟨rfl, rfl⟩
/-- How two values stand to each other. -/
def cmpV (k n : Int) (s : ByteArray) (k' n' : Int) (s' : ByteArray) : Int :=
  if cmpI k k' ≠ 0 then cmpI k k' else if k = 2 then cmpS s s' else cmpI n n'
set_option maxHeartbeats 400000 in
theorem compare_any (k n k' n' : Int) (s s' : ByteArray) (w : World) :
    Calls Tryd.prog 36 #[V k n s, V k' n' s'] w fun e w' => e = .returned (.int .i64 (cmpV k n s k' n' s')) ∧ Gr w w' := by
  by_cases h : cmpI k k' = 0
  · have e0 : (cmpI k k' != 0) = false := by simp [h]
    by_cases h2 : k = 2
    · have e1 : cmpV k n s k' n' s' = cmpS s s' := by unfold cmpV; rw [if_neg (by simp [h]), if_pos h2]
      rw [e1]
      have e2 : (k == 2) = true := beq_iff_eq.2 h2
      clear h h2 e1
      go_enter Tryd.func36, Tryd.ntmps36
      go_wp2_with (first | (go_at_call 46; refine (cmpInt_any _ _ _).mono ?_; rintro e w' ⟨rfl, rfl⟩) | (go_at_call 47; refine (stringsCompare_any _ _ _).mono ?_; rintro e w' ⟨rfl, rfl⟩))
      go_ret
      exact ⟨rfl, ((Gr.refl _).alloc _).alloc _⟩
    · have e1 : cmpV k n s k' n' s' = cmpI n n' := by unfold cmpV; rw [if_neg (by simp [h]), if_neg h2]
      rw [e1]
      have e2 : (k == 2) = false := beq_eq_false_iff_ne.2 h2
      clear h h2 e1
      go_enter Tryd.func36, Tryd.ntmps36
      go_wp2_with (first | (go_at_call 46; refine (cmpInt_any _ _ _).mono ?_; rintro e w' ⟨rfl, rfl⟩) | (go_at_call 47; refine (stringsCompare_any _ _ _).mono ?_; rintro e w' ⟨rfl, rfl⟩))
      go_ret
      exact ⟨rfl, ((Gr.refl _).alloc _).alloc _⟩
  · have e1 : cmpV k n s k' n' s' = cmpI k k' := by unfold cmpV; rw [if_pos h]
    rw [e1]
    have e0 : (cmpI k k' != 0) = true := bne_iff_ne.2 h
    clear h e1
    go_enter Tryd.func36, Tryd.ntmps36
    go_wp2_with (first | (go_at_call 46; refine (cmpInt_any _ _ _).mono ?_; rintro e w' ⟨rfl, rfl⟩) | (go_at_call 47; refine (stringsCompare_any _ _ _).mono ?_; rintro e w' ⟨rfl, rfl⟩))
    go_ret
    exact ⟨rfl, ((Gr.refl _).alloc _).alloc _⟩
/-- What a value is. -/
def isVal (k n : Int) (s : ByteArray) : Bool :=
  if k = 0 then n == 0 && s.toList.isEmpty
  else if k = 1 then s.toList.isEmpty
  else if k = 2 then n == 0 && decide ((s.size : Int) ≤ 200)
  else if k = 3 then (n == 0 || n == 1) && s.toList.isEmpty
  else if k = 4 then (decide (1 ≤ n) && decide (n ≤ 6)) && s.toList.isEmpty
  else false
theorem isBadNum_any (n : Int) (w : World) :
    Calls Tryd.prog 48 #[.int .i64 n] w fun e w' => e = .returned (.bool (decide (1 ≤ n) && decide (n ≤ 6))) ∧ w' = w := by
  by_cases h : 1 ≤ n
  · have e1 : (decide (1 ≤ n) && decide (n ≤ 6)) = decide (n ≤ 6) := by simp [h]
    rw [e1]
    clear e1
    go_enter Tryd.func48, Tryd.ntmps48
    go_wp2
    go_ret
    exact ⟨by simp, rfl⟩
  · have e1 : (decide (1 ≤ n) && decide (n ≤ 6)) = false := by simp [h]
    rw [e1]
    clear e1
    go_enter Tryd.func48, Tryd.ntmps48
    go_wp2
    go_ret
    exact ⟨rfl, rfl⟩
set_option maxHeartbeats 1000000 in
theorem isValue_0 (n : Int) (s : ByteArray) (w : World) :
    Calls Tryd.prog 38 #[V 0 n s] w fun e w' => e = .returned (.bool (n == 0 && s.toList.isEmpty)) ∧ Below w.heap.size w w' := by
  by_cases h : n = 0
  · have h1 : (n == 0) = true := beq_iff_eq.2 h
    rw [h1, Bool.true_and]
    clear h
    go_enter Tryd.func38, Tryd.ntmps38
    go_wp2_with (first | (go_at_call 48; refine (isBadNum_any _ _).mono ?_; rintro e w' ⟨rfl, rfl⟩))
    go_ret
    exact ⟨by simp, (Below.refl _ _).alloc (Nat.le_refl _) _⟩
  · have h1 : (n == 0) = false := beq_eq_false_iff_ne.2 h
    rw [h1, Bool.false_and]
    clear h
    go_enter Tryd.func38, Tryd.ntmps38
    go_wp2_with (first | (go_at_call 48; refine (isBadNum_any _ _).mono ?_; rintro e w' ⟨rfl, rfl⟩))
    go_ret
    exact ⟨by simp, (Below.refl _ _).alloc (Nat.le_refl _) _⟩
set_option maxHeartbeats 1000000 in
theorem isValue_1 (n : Int) (s : ByteArray) (w : World) :
    Calls Tryd.prog 38 #[V 1 n s] w fun e w' => e = .returned (.bool (s.toList.isEmpty)) ∧ Below w.heap.size w w' := by
  go_enter Tryd.func38, Tryd.ntmps38
  go_wp2_with (first | (go_at_call 48; refine (isBadNum_any _ _).mono ?_; rintro e w' ⟨rfl, rfl⟩))
  go_ret
  exact ⟨by simp, (Below.refl _ _).alloc (Nat.le_refl _) _⟩
set_option maxHeartbeats 1000000 in
theorem isValue_2 (n : Int) (s : ByteArray) (w : World) :
    Calls Tryd.prog 38 #[V 2 n s] w fun e w' => e = .returned (.bool (n == 0 && decide ((s.size : Int) ≤ 200))) ∧ Below w.heap.size w w' := by
  by_cases h : n = 0
  · have h1 : (n == 0) = true := beq_iff_eq.2 h
    rw [h1, Bool.true_and]
    clear h
    go_enter Tryd.func38, Tryd.ntmps38
    go_wp2_with (first | (go_at_call 48; refine (isBadNum_any _ _).mono ?_; rintro e w' ⟨rfl, rfl⟩))
    go_ret
    exact ⟨by simp, (Below.refl _ _).alloc (Nat.le_refl _) _⟩
  · have h1 : (n == 0) = false := beq_eq_false_iff_ne.2 h
    rw [h1, Bool.false_and]
    clear h
    go_enter Tryd.func38, Tryd.ntmps38
    go_wp2_with (first | (go_at_call 48; refine (isBadNum_any _ _).mono ?_; rintro e w' ⟨rfl, rfl⟩))
    go_ret
    exact ⟨by simp, (Below.refl _ _).alloc (Nat.le_refl _) _⟩
set_option maxHeartbeats 1000000 in
theorem isValue_3 (n : Int) (s : ByteArray) (w : World) :
    Calls Tryd.prog 38 #[V 3 n s] w fun e w' => e = .returned (.bool ((n == 0 || n == 1) && s.toList.isEmpty)) ∧ Below w.heap.size w w' := by
  by_cases h : n = 0
  · have h1 : (n == 0) = true := beq_iff_eq.2 h
    rw [h1, Bool.true_or, Bool.true_and]
    clear h
    go_enter Tryd.func38, Tryd.ntmps38
    go_wp2_with (first | (go_at_call 48; refine (isBadNum_any _ _).mono ?_; rintro e w' ⟨rfl, rfl⟩))
    go_ret
    exact ⟨by simp, (Below.refl _ _).alloc (Nat.le_refl _) _⟩
  have h1 : (n == 0) = false := beq_eq_false_iff_ne.2 h
  by_cases g : n = 1
  · have h2 : (n == 1) = true := beq_iff_eq.2 g
    rw [h1, h2, Bool.false_or, Bool.true_and]
    clear h g
    go_enter Tryd.func38, Tryd.ntmps38
    go_wp2_with (first | (go_at_call 48; refine (isBadNum_any _ _).mono ?_; rintro e w' ⟨rfl, rfl⟩))
    go_ret
    exact ⟨by simp, (Below.refl _ _).alloc (Nat.le_refl _) _⟩
  · have h2 : (n == 1) = false := beq_eq_false_iff_ne.2 g
    rw [h1, h2, Bool.false_or, Bool.false_and]
    clear h g
    go_enter Tryd.func38, Tryd.ntmps38
    go_wp2_with (first | (go_at_call 48; refine (isBadNum_any _ _).mono ?_; rintro e w' ⟨rfl, rfl⟩))
    go_ret
    exact ⟨by simp, (Below.refl _ _).alloc (Nat.le_refl _) _⟩
set_option maxHeartbeats 1000000 in
theorem isValue_4 (n : Int) (s : ByteArray) (w : World) :
    Calls Tryd.prog 38 #[V 4 n s] w fun e w' => e = .returned (.bool ((decide (1 ≤ n) && decide (n ≤ 6)) && s.toList.isEmpty)) ∧ Below w.heap.size w w' := by
  by_cases h : (decide (1 ≤ n) && decide (n ≤ 6)) = true
  · rw [h, Bool.true_and]
    have HH : Hid ((decide (1 ≤ n) && decide (n ≤ 6)) = true) := h
    clear h
    go_enter Tryd.func38, Tryd.ntmps38
    go_wp2_with fail
    refine (isBadNum_any _ _).mono ?_
    rintro e w' ⟨rfl, rfl⟩
    rw [HH.out]
    go_wp2
    go_ret
    exact ⟨by simp, (Below.refl _ _).alloc (Nat.le_refl _) _⟩
  · rw [Bool.not_eq_true] at h
    rw [h, Bool.false_and]
    have HH : Hid ((decide (1 ≤ n) && decide (n ≤ 6)) = false) := h
    clear h
    go_enter Tryd.func38, Tryd.ntmps38
    go_wp2_with fail
    refine (isBadNum_any _ _).mono ?_
    rintro e w' ⟨rfl, rfl⟩
    rw [HH.out]
    go_wp2
    go_ret
    exact ⟨by simp, (Below.refl _ _).alloc (Nat.le_refl _) _⟩
set_option maxHeartbeats 1000000 in
theorem isValue_none (k n : Int) (s : ByteArray) (w : World) (h0 : (k == 0) = false) (h1 : (k == 1) = false) (h2 : (k == 2) = false) (h3 : (k == 3) = false) (h4 : (k == 4) = false) :
    Calls Tryd.prog 38 #[V k n s] w fun e w' => e = .returned (.bool false) ∧ Below w.heap.size w w' := by
  go_enter Tryd.func38, Tryd.ntmps38
  go_wp2
  go_ret
  exact ⟨rfl, (Below.refl _ _).alloc (Nat.le_refl _) _⟩
theorem isValue_any (k n : Int) (s : ByteArray) (w : World) :
    Calls Tryd.prog 38 #[V k n s] w fun e w' => e = .returned (.bool (isVal k n s)) ∧ Below w.heap.size w w' := by
  unfold isVal
  by_cases h0 : k = 0
  · subst h0; rw [if_pos rfl]; exact isValue_0 n s w
  by_cases h1 : k = 1
  · subst h1; rw [if_neg h0, if_pos rfl]; exact isValue_1 n s w
  by_cases h2 : k = 2
  · subst h2; rw [if_neg h0, if_neg h1, if_pos rfl]; exact isValue_2 n s w
  by_cases h3 : k = 3
  · subst h3; rw [if_neg h0, if_neg h1, if_neg h2, if_pos rfl]; exact isValue_3 n s w
  by_cases h4 : k = 4
  · subst h4; rw [if_neg h0, if_neg h1, if_neg h2, if_neg h3, if_pos rfl]; exact isValue_4 n s w
  rw [if_neg h0, if_neg h1, if_neg h2, if_neg h3, if_neg h4]
  exact isValue_none k n s w (beq_eq_false_iff_ne.2 h0) (beq_eq_false_iff_ne.2 h1) (beq_eq_false_iff_ne.2 h2) (beq_eq_false_iff_ne.2 h3) (beq_eq_false_iff_ne.2 h4)
set_option maxHeartbeats 1000000 in
theorem check_yes (k n : Int) (s : ByteArray) (w : World) (h : isVal k n s = true) :
    Calls Tryd.prog 31 #[V k n s] w fun e w' => e = .returned .nilIface ∧ Below w.heap.size w w' := by
  have HH : Hid (isVal k n s = true) := h
  clear h
  go_enter Tryd.func31, Tryd.ntmps31
  go_wp2_with fail
  refine (isValue_any _ _ _ _).mono ?_
  rintro e w1 ⟨rfl, h1⟩
  rw [HH.out]
  go_wp2
  go_ret
  exact ⟨rfl, bnext ((Below.refl _ _).alloc (Nat.le_refl _) _) h1 (by simp)⟩
set_option maxHeartbeats 1000000 in
theorem check_no (k n : Int) (s : ByteArray) (w : World) (h : isVal k n s = false) :
    Calls Tryd.prog 31 #[V k n s] w fun e w' => e = .returned (.iface 46 (.int .i64 1)) ∧ Below w.heap.size w w' := by
  have HH : Hid (isVal k n s = false) := h
  clear h
  go_enter Tryd.func31, Tryd.ntmps31
  go_wp2_with fail
  refine (isValue_any _ _ _ _).mono ?_
  rintro e w1 ⟨rfl, h1⟩
  rw [HH.out]
  go_wp2
  go_ret
  exact ⟨rfl, bnext ((Below.refl _ _).alloc (Nat.le_refl _) _) h1 (by simp)⟩
theorem toList_nil {s : ByteArray} (h : s.toList.isEmpty = true) : s = nul := by
  rw [ByteArray.toList_eq, List.isEmpty_iff] at h
  obtain ⟨⟨l⟩⟩ := s
  simp at h
  subst h
  rfl
theorem cmpI_neg (a b : Int) : cmpI a b = -cmpI b a := by unfold cmpI; split <;> split <;> omega
theorem cmpI_zero {a b : Int} : cmpI a b = 0 ↔ a = b := by unfold cmpI; split <;> (try split) <;> omega
theorem cmpI_bd (a b : Int) : -1 ≤ cmpI a b ∧ cmpI a b ≤ 1 := by unfold cmpI; split <;> (try split) <;> omega
theorem cmpI_le {a b : Int} : cmpI a b ≤ 0 ↔ a ≤ b := by unfold cmpI; split <;> (try split) <;> omega
theorem cb_neg : ∀ a b : List UInt8, Lib.compareBytes a b = -Lib.compareBytes b a
  | [], [] => by simp [Lib.compareBytes]
  | [], _ :: _ => by simp [Lib.compareBytes]
  | _ :: _, [] => by simp [Lib.compareBytes]
  | a :: al, b :: bl => by
    have ih := cb_neg al bl
    simp only [Lib.compareBytes]
    by_cases h : a < b
    · have h2 : ¬ b < a := by rw [UInt8.lt_iff_toNat_lt] at *; omega
      rw [if_pos h, if_neg h2, if_pos h]
    · by_cases h2 : b < a
      · rw [if_neg h, if_pos h2, if_pos h2]; rfl
      · rw [if_neg h, if_neg h2, if_neg h2, if_neg h]; exact ih
theorem cb_zero : ∀ {a b : List UInt8}, Lib.compareBytes a b = 0 ↔ a = b
  | [], [] => by simp [Lib.compareBytes]
  | [], _ :: _ => by simp [Lib.compareBytes]
  | _ :: _, [] => by simp [Lib.compareBytes]
  | a :: al, b :: bl => by
    have ih := cb_zero (a := al) (b := bl)
    simp only [Lib.compareBytes]
    by_cases h : a < b
    · rw [if_pos h]
      have : a ≠ b := by rintro rfl; rw [UInt8.lt_iff_toNat_lt] at h; omega
      simp [this]
    · by_cases h2 : b < a
      · rw [if_neg h, if_pos h2]
        have : a ≠ b := by rintro rfl; rw [UInt8.lt_iff_toNat_lt] at h2; omega
        simp [this]
      · rw [if_neg h, if_neg h2]
        have : a = b := by rw [UInt8.lt_iff_toNat_lt] at *; exact UInt8.toNat_inj.1 (by omega)
        simp [this, ih]
theorem cb_bd : ∀ a b : List UInt8, -1 ≤ Lib.compareBytes a b ∧ Lib.compareBytes a b ≤ 1
  | [], [] => by simp [Lib.compareBytes]
  | [], _ :: _ => by simp [Lib.compareBytes]
  | _ :: _, [] => by simp [Lib.compareBytes]
  | a :: al, b :: bl => by
    have ih := cb_bd al bl
    simp only [Lib.compareBytes]
    split
    · omega
    · split
      · omega
      · exact ih
theorem cb_trans : ∀ {a b c : List UInt8}, Lib.compareBytes a b ≤ 0 → Lib.compareBytes b c ≤ 0 → Lib.compareBytes a c ≤ 0
  | [], _, [] => by simp [Lib.compareBytes]
  | [], _, _ :: _ => by simp [Lib.compareBytes]
  | _ :: _, [], _ => by simp [Lib.compareBytes]
  | _ :: _, _ :: _, [] => by simp [Lib.compareBytes]
  | a :: al, b :: bl, c :: cl => by
    have ih := cb_trans (a := al) (b := bl) (c := cl)
    simp only [Lib.compareBytes]
    intro h1 h2
    by_cases p : a < b
    · by_cases q : b < c
      · rw [if_pos (by rw [UInt8.lt_iff_toNat_lt] at *; omega)]; omega
      · rw [if_neg q] at h2
        by_cases r : c < b
        · rw [if_pos r] at h2; omega
        · have e : b = c := by rw [UInt8.lt_iff_toNat_lt] at *; exact UInt8.toNat_inj.1 (by omega)
          subst e; rw [if_pos p]; omega
    · rw [if_neg p] at h1
      by_cases r : b < a
      · rw [if_pos r] at h1; omega
      · rw [if_neg r] at h1
        have e : a = b := by rw [UInt8.lt_iff_toNat_lt] at *; exact UInt8.toNat_inj.1 (by omega)
        subst e
        by_cases q : a < c
        · rw [if_pos q]; omega
        · rw [if_neg q] at h2 ⊢
          by_cases r2 : c < a
          · rw [if_pos r2] at h2; omega
          · rw [if_neg r2] at h2 ⊢; exact ih h1 h2
theorem cmpS_zero {a b : ByteArray} : cmpS a b = 0 ↔ a = b := by
  unfold cmpS
  rw [cb_zero]
  constructor
  · intro h
    obtain ⟨⟨l⟩⟩ := a
    obtain ⟨⟨m⟩⟩ := b
    simp at h
    rw [h]
  · rintro rfl; rfl
theorem cmpV_neg (k n : Int) (s : ByteArray) (k' n' : Int) (s' : ByteArray) : cmpV k n s k' n' s' = -cmpV k' n' s' k n s := by
  unfold cmpV
  have e := cmpI_neg k k'
  by_cases h : cmpI k k' = 0
  · have hk := cmpI_zero.1 h
    subst hk
    have hh : ¬ (cmpI k k ≠ 0) := by simp [h]
    rw [if_neg hh, if_neg hh]
    by_cases h2 : k = 2
    · rw [if_pos h2, if_pos h2]; exact cb_neg _ _
    · rw [if_neg h2, if_neg h2]; exact cmpI_neg _ _
  · rw [if_pos h, if_pos (by omega)]; exact e
theorem cmpV_bd (k n : Int) (s : ByteArray) (k' n' : Int) (s' : ByteArray) : -1 ≤ cmpV k n s k' n' s' ∧ cmpV k n s k' n' s' ≤ 1 := by
  unfold cmpV
  split
  · exact cmpI_bd _ _
  · split
    · exact cb_bd _ _
    · exact cmpI_bd _ _
theorem cmpV_trans {k n : Int} {s : ByteArray} {k' n' : Int} {s' : ByteArray} {k2 n2 : Int} {s2 : ByteArray} (h1 : cmpV k n s k' n' s' ≤ 0) (h2 : cmpV k' n' s' k2 n2 s2 ≤ 0) : cmpV k n s k2 n2 s2 ≤ 0 := by
  unfold cmpV at *
  by_cases a : cmpI k k' = 0
  · have hk := cmpI_zero.1 a
    subst hk
    rw [if_neg (by simpa using a)] at h1
    by_cases b : cmpI k k2 = 0
    · have hk := cmpI_zero.1 b
      subst hk
      rw [if_neg (by simpa using a)] at h2 ⊢
      by_cases c : k = 2
      · rw [if_pos c] at *; exact cb_trans h1 h2
      · rw [if_neg c] at *; rw [cmpI_le] at *; omega
    · rw [if_pos b] at h2 ⊢; exact h2
  · rw [if_pos a, cmpI_le] at h1
    have hne : k ≠ k' := fun e => a (cmpI_zero.2 e)
    by_cases b : cmpI k' k2 = 0
    · have hk := cmpI_zero.1 b
      subst hk
      rw [if_pos a, cmpI_le]; exact h1
    · rw [if_pos b, cmpI_le] at h2
      rw [if_pos (fun e => hne (by have := cmpI_zero.1 e; omega)), cmpI_le]; omega
/-- What a value's kind says of its other fields. -/
theorem isVal_num {k n : Int} {s : ByteArray} (h : isVal k n s = true) (h2 : k ≠ 2) : s = nul := by
  unfold isVal at h
  rw [if_neg h2] at h
  apply toList_nil
  repeat' (split at h)
  all_goals simp_all
theorem isVal_txt {n : Int} {s : ByteArray} (h : isVal 2 n s = true) : n = 0 := by
  unfold isVal at h
  simp at h
  exact h.1
theorem cmpV_zero {k n : Int} {s : ByteArray} {k' n' : Int} {s' : ByteArray} (h : isVal k n s = true) (h' : isVal k' n' s' = true) : cmpV k n s k' n' s' = 0 ↔ k = k' ∧ n = n' ∧ s = s' := by
  unfold cmpV
  by_cases a : cmpI k k' = 0
  · have hk := cmpI_zero.1 a
    subst hk
    rw [if_neg (by simpa using a)]
    by_cases c : k = 2
    · subst c
      rw [if_pos rfl, cmpS_zero]
      have e1 := isVal_txt h
      have e2 := isVal_txt h'
      simp [e1, e2]
    · rw [if_neg c, cmpI_zero]
      have e1 := isVal_num h c
      have e2 := isVal_num h' c
      simp [e1, e2]
  · rw [if_pos a]
    have hne : k ≠ k' := fun e => a (cmpI_zero.2 e)
    simp [a, hne]
end Go.Proofs.YtehamdkjdbaceaaDoor.so