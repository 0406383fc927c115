/- Package value and its reference, as far as values are known and held against each other. Conditions: as each theorem says. -/
import Derived.Test.YtoaejcppfmjhdaaGreatDoorEb
import Derived.WalkKit
import Derived.ProofKit
import Derived.WalkSpells
import Derived.WalkLawsBesides
import Derived.Below
import Derived.Lib.Bytealg
import Derived.Lib.Walk
import Derived.Deep.DeepCutAuto
import Derived.Deep.RegionHeld3
namespace Go.Proofs.YtoaejcppfmjhdaaGreatDoor.vv
open Go.RowKit
/-- A value of package api, as the model has it. -/
abbrev V (k n : Int) (s : ByteArray) : Value := .agg #[.int .i64 k, .int .i64 n, .string s]
theorem bcell {W w1 : World} (hb : Below W.heap.size W w1) : (∀ b o, b < W.heap.size → w1.cell? ⟨b, o, none⟩ = W.cell? ⟨b, o, none⟩) ∧ (∀ b o, b < W.heap.size → w1.frozen? ⟨b, o, none⟩ = W.frozen? ⟨b, o, none⟩) :=
  ⟨fun b o h => hb.cell (p := ⟨b, o, none⟩) h, fun b o h => hb.frozen (p := ⟨b, o, none⟩) h⟩
theorem bnext {B : Nat} {w x y : World} (h : Below B w x) (h2 : Below x.heap.size x y) (hB : B ≤ x.heap.size) : Below B w y := h.trans (h2.mono hB)
theorem bnew {B : Nat} {w x y : World} (h : Below B w x) (h2 : Below x.heap.size x y) (hB : B ≤ x.heap.size) (o : Obj) : Below B w (y.alloc o) := (bnext h h2 hB).alloc (Nat.le_trans hB h2.size) _
/-- A value lies in a block of its own. -/
structure Has (w : World) (b : Nat) (k n : Int) (s : ByteArray) : Prop where
  lt : b < w.heap.size
  c0 : w.cell? ⟨b, 0, none⟩ = some (.int .i64 k)
  c1 : w.cell? ⟨b, 1, none⟩ = some (.int .i64 n)
  c2 : w.cell? ⟨b, 2, none⟩ = some (.string s)
theorem Has.below {w w' : World} {b : Nat} {k n : Int} {s : ByteArray} (h : Has w b k n s) (hb : Below w.heap.size w w') : Has w' b k n s :=
  ⟨Nat.lt_of_lt_of_le h.lt hb.size, by rw [hb.cell h.lt]; exact h.c0, by rw [hb.cell h.lt]; exact h.c1, by rw [hb.cell h.lt]; exact h.c2⟩
theorem Has.alloc {w : World} {b : Nat} {k n : Int} {s : ByteArray} (h : Has w b k n s) (o : Obj) : Has (w.alloc o) b k n s :=
  h.below ((Below.refl _ _).alloc (Nat.le_refl _) _)
theorem Has.drew {w : World} {b : Nat} {k n : Int} {s : ByteArray} (h : Has w b k n s) : Has w.drew b k n s := ⟨h.lt, h.c0, h.c1, h.c2⟩
theorem Has.new (w : World) (k n : Int) (s : ByteArray) (t : TypeId) : Has (w.alloc (.cells #[.int .i64 k, .int .i64 n, .string s] t)) w.heap.size k n s :=
  ⟨by simp, by simp, by simp, by simp⟩
/-! The makers. -/
/-- The number of a truth. -/
def b2n (t : Bool) : Int := if t = true then 1 else 0
theorem rnum_any (n : Int) (w : World) :
    Calls Tryz.prog 10 #[.int .i64 n] w fun e w' => e = .returned (V 1 n nul) ∧ Below w.heap.size w w' := by
  go_enter Tryz.func10, Tryz.ntmps10
  go_wp2
  exact bodyPost_ret (v := V 1 n nul) (by simp [results, Tryz.results10, go_sem]) rfl ⟨rfl, (Below.refl _ _).alloc (Nat.le_refl _) _⟩
theorem rtxt_any (s : ByteArray) (w : World) :
    Calls Tryz.prog 21 #[.string s] w fun e w' => e = .returned (V 2 0 s) ∧ Below w.heap.size w w' := by
  go_enter Tryz.func21, Tryz.ntmps21
  go_wp2
  exact bodyPost_ret (v := V 2 0 s) (by simp [results, Tryz.results21, go_sem]) rfl ⟨rfl, (Below.refl _ _).alloc (Nat.le_refl _) _⟩
theorem rtru_any (t : Bool) (w : World) :
    Calls Tryz.prog 22 #[.bool t] w fun e w' => e = .returned (V 3 (b2n t) nul) ∧ Below w.heap.size w w' := by
  cases t
  · go_enter Tryz.func22, Tryz.ntmps22
    go_wp2
    exact bodyPost_ret (v := V 3 0 nul) (by simp [results, Tryz.results22, go_sem]) rfl ⟨rfl, (Below.refl _ _).alloc (Nat.le_refl _) _⟩
  · go_enter Tryz.func22, Tryz.ntmps22
    go_wp2
    exact bodyPost_ret (v := V 3 1 nul) (by simp [results, Tryz.results22, go_sem]) rfl ⟨rfl, (Below.refl _ _).alloc (Nat.le_refl _) _⟩
theorem truth_any (t : Bool) (w : World) :
    Calls Tryz.prog 112 #[.bool t] w fun e w' => e = .returned (V 3 (b2n t) nul) ∧ Below w.heap.size w w' := by
  cases t
  · go_enter Tryz.func112, Tryz.ntmps112
    go_wp2
    exact bodyPost_ret (v := V 3 0 nul) (by simp [results, Tryz.results112, go_sem]) rfl ⟨rfl, (Below.refl _ _).alloc (Nat.le_refl _) _⟩
  · go_enter Tryz.func112, Tryz.ntmps112
    go_wp2
    exact bodyPost_ret (v := V 3 1 nul) (by simp [results, Tryz.results112, go_sem]) rfl ⟨rfl, (Below.refl _ _).alloc (Nat.le_refl _) _⟩
/-! Numbers and texts held against each other. -/
def cmpI (a b : Int) : Int := if a < b then -1 else if b < a then 1 else 0
abbrev cmpS (a b : ByteArray) : Int := Lib.compareBytes a.data.toList b.data.toList
theorem cmpInt_any (a b : Int) (w : World) :
    Calls Tryz.prog 151 #[.int .i64 a, .int .i64 b] w fun e w' => e = .returned (.int .i64 (cmpI a b)) ∧ w' = w := by
  by_cases h : a < b
  · have e1 : cmpI a b = -1 := by unfold cmpI; rw [if_pos h]
    rw [e1]
    go_enter Tryz.func151, Tryz.ntmps151
    go_wp2
    go_ret
    exact ⟨rfl, rfl⟩
  · by_cases h2 : b < a
    · have e1 : cmpI a b = 1 := by unfold cmpI; rw [if_neg h, if_pos h2]
      rw [e1]
      go_enter Tryz.func151, Tryz.ntmps151
      go_wp2
      go_ret
      exact ⟨rfl, rfl⟩
    · have e1 : cmpI a b = 0 := by unfold cmpI; rw [if_neg h, if_neg h2]
      rw [e1]
      go_enter Tryz.func151, Tryz.ntmps151
      go_wp2
      go_ret
      exact ⟨rfl, rfl⟩
set_option maxRecDepth 100000 in
theorem cmpString_any (a b : ByteArray) (w : World) :
    Calls Tryz.prog 232 #[.string a, .string b] w fun e w' => e = .returned (.int .i64 (cmpS a b)) ∧ w' = w := by
  go_enter Tryz.func232, Tryz.ntmps232
  go_wp2
  rw [run_callFunc_extern Tryz.func264 (by kernel_rfl) (by kernel_rfl) (by kernel_rfl) (e := Extern.BytealgCompare.compare) (by kernel_rfl), Lib.run_compareString]
  simp only [Result.andThen]
  rw [Oper.upon_value]
  go_wp2
  go_ret
  exact ⟨rfl, rfl⟩
theorem stringsCompare_any (a b : ByteArray) (w : World) :
    Calls Tryz.prog 152 #[.string a, .string b] w fun e w' => e = .returned (.int .i64 (cmpS a b)) ∧ w' = w := by
  go_enter Tryz.func152, Tryz.ntmps152
  go_wp2_with (go_at_call 232; refine (cmpString_any _ _ _).mono ?_; rintro e w' ⟨rfl, rfl⟩)
  go_ret
  exact ⟨rfl, rfl⟩
/-- How two values stand to each other. -/
def cmpV (k n : Int) (s : ByteArray) (k' n' : Int) (s' : ByteArray) : Int :=
  if cmpI k k' ≠ 0 then cmpI k k' else if k = 2 then cmpS s s' else cmpI n n'
set_option maxHeartbeats 400000 in
theorem compare_any (k n k' n' : Int) (s s' : ByteArray) (w : World) :
    Calls Tryz.prog 110 #[V k n s, V k' n' s'] w fun e w' => e = .returned (.int .i64 (cmpV k n s k' n' s')) ∧ Below w.heap.size w w' := by
  by_cases h : cmpI k k' = 0
  · have e0 : (cmpI k k' != 0) = false := by simp [h]
    by_cases h2 : k = 2
    · have e1 : cmpV k n s k' n' s' = cmpS s s' := by unfold cmpV; rw [if_neg (by simp [h]), if_pos h2]
      rw [e1]
      have e2 : (k == 2) = true := beq_iff_eq.2 h2
      clear h h2 e1
      go_enter Tryz.func110, Tryz.ntmps110
      go_wp2_with (first | (go_at_call 151; refine (cmpInt_any _ _ _).mono ?_; rintro e w' ⟨rfl, rfl⟩) | (go_at_call 152; refine (stringsCompare_any _ _ _).mono ?_; rintro e w' ⟨rfl, rfl⟩))
      go_ret
      exact ⟨rfl, ((Below.refl _ _).alloc (Nat.le_refl _) _).alloc (by simp) _⟩
    · have e1 : cmpV k n s k' n' s' = cmpI n n' := by unfold cmpV; rw [if_neg (by simp [h]), if_neg h2]
      rw [e1]
      have e2 : (k == 2) = false := beq_eq_false_iff_ne.2 h2
      clear h h2 e1
      go_enter Tryz.func110, Tryz.ntmps110
      go_wp2_with (first | (go_at_call 151; refine (cmpInt_any _ _ _).mono ?_; rintro e w' ⟨rfl, rfl⟩) | (go_at_call 152; refine (stringsCompare_any _ _ _).mono ?_; rintro e w' ⟨rfl, rfl⟩))
      go_ret
      exact ⟨rfl, ((Below.refl _ _).alloc (Nat.le_refl _) _).alloc (by simp) _⟩
  · have e1 : cmpV k n s k' n' s' = cmpI k k' := by unfold cmpV; rw [if_pos h]
    rw [e1]
    have e0 : (cmpI k k' != 0) = true := bne_iff_ne.2 h
    clear h e1
    go_enter Tryz.func110, Tryz.ntmps110
    go_wp2_with (first | (go_at_call 151; refine (cmpInt_any _ _ _).mono ?_; rintro e w' ⟨rfl, rfl⟩) | (go_at_call 152; refine (stringsCompare_any _ _ _).mono ?_; rintro e w' ⟨rfl, rfl⟩))
    go_ret
    exact ⟨rfl, ((Below.refl _ _).alloc (Nat.le_refl _) _).alloc (by simp) _⟩
/-- What a value is. -/
def isVal (k n : Int) (s : ByteArray) : Bool :=
  if k = 0 then n == 0 && s.toList.isEmpty
  else if k = 1 then s.toList.isEmpty
  else if k = 2 then n == 0 && decide ((s.size : Int) ≤ 200)
  else if k = 3 then (n == 0 || n == 1) && s.toList.isEmpty
  else if k = 4 then (decide (1 ≤ n) && decide (n ≤ 6)) && s.toList.isEmpty
  else false
theorem isBadNum_any (n : Int) (w : World) :
    Calls Tryz.prog 105 #[.int .i64 n] w fun e w' => e = .returned (.bool (decide (1 ≤ n) && decide (n ≤ 6))) ∧ w' = w := by
  by_cases h : 1 ≤ n
  · have e1 : (decide (1 ≤ n) && decide (n ≤ 6)) = decide (n ≤ 6) := by simp [h]
    rw [e1]
    clear e1
    go_enter Tryz.func105, Tryz.ntmps105
    go_wp2
    go_ret
    exact ⟨by simp, rfl⟩
  · have e1 : (decide (1 ≤ n) && decide (n ≤ 6)) = false := by simp [h]
    rw [e1]
    clear e1
    go_enter Tryz.func105, Tryz.ntmps105
    go_wp2
    go_ret
    exact ⟨rfl, rfl⟩
set_option maxHeartbeats 1000000 in
theorem isValue_0 (n : Int) (s : ByteArray) (w : World) :
    Calls Tryz.prog 73 #[V 0 n s] w fun e w' => e = .returned (.bool (n == 0 && s.toList.isEmpty)) ∧ Below w.heap.size w w' := by
  by_cases h : n = 0
  · have h1 : (n == 0) = true := beq_iff_eq.2 h
    rw [h1, Bool.true_and]
    clear h
    go_enter Tryz.func73, Tryz.ntmps73
    go_wp2_with (first | (go_at_call 105; refine (isBadNum_any _ _).mono ?_; rintro e w' ⟨rfl, rfl⟩))
    go_ret
    exact ⟨by simp, (Below.refl _ _).alloc (Nat.le_refl _) _⟩
  · have h1 : (n == 0) = false := beq_eq_false_iff_ne.2 h
    rw [h1, Bool.false_and]
    clear h
    go_enter Tryz.func73, Tryz.ntmps73
    go_wp2_with (first | (go_at_call 105; refine (isBadNum_any _ _).mono ?_; rintro e w' ⟨rfl, rfl⟩))
    go_ret
    exact ⟨by simp, (Below.refl _ _).alloc (Nat.le_refl _) _⟩
set_option maxHeartbeats 1000000 in
theorem isValue_1 (n : Int) (s : ByteArray) (w : World) :
    Calls Tryz.prog 73 #[V 1 n s] w fun e w' => e = .returned (.bool (s.toList.isEmpty)) ∧ Below w.heap.size w w' := by
  go_enter Tryz.func73, Tryz.ntmps73
  go_wp2_with (first | (go_at_call 105; refine (isBadNum_any _ _).mono ?_; rintro e w' ⟨rfl, rfl⟩))
  go_ret
  exact ⟨by simp, (Below.refl _ _).alloc (Nat.le_refl _) _⟩
set_option maxHeartbeats 1000000 in
theorem isValue_2 (n : Int) (s : ByteArray) (w : World) :
    Calls Tryz.prog 73 #[V 2 n s] w fun e w' => e = .returned (.bool (n == 0 && decide ((s.size : Int) ≤ 200))) ∧ Below w.heap.size w w' := by
  by_cases h : n = 0
  · have h1 : (n == 0) = true := beq_iff_eq.2 h
    rw [h1, Bool.true_and]
    clear h
    go_enter Tryz.func73, Tryz.ntmps73
    go_wp2_with (first | (go_at_call 105; refine (isBadNum_any _ _).mono ?_; rintro e w' ⟨rfl, rfl⟩))
    go_ret
    exact ⟨by simp, (Below.refl _ _).alloc (Nat.le_refl _) _⟩
  · have h1 : (n == 0) = false := beq_eq_false_iff_ne.2 h
    rw [h1, Bool.false_and]
    clear h
    go_enter Tryz.func73, Tryz.ntmps73
    go_wp2_with (first | (go_at_call 105; refine (isBadNum_any _ _).mono ?_; rintro e w' ⟨rfl, rfl⟩))
    go_ret
    exact ⟨by simp, (Below.refl _ _).alloc (Nat.le_refl _) _⟩
set_option maxHeartbeats 1000000 in
theorem isValue_3 (n : Int) (s : ByteArray) (w : World) :
    Calls Tryz.prog 73 #[V 3 n s] w fun e w' => e = .returned (.bool ((n == 0 || n == 1) && s.toList.isEmpty)) ∧ Below w.heap.size w w' := by
  by_cases h : n = 0
  · have h1 : (n == 0) = true := beq_iff_eq.2 h
    rw [h1, Bool.true_or, Bool.true_and]
    clear h
    go_enter Tryz.func73, Tryz.ntmps73
    go_wp2_with (first | (go_at_call 105; refine (isBadNum_any _ _).mono ?_; rintro e w' ⟨rfl, rfl⟩))
    go_ret
    exact ⟨by simp, (Below.refl _ _).alloc (Nat.le_refl _) _⟩
  have h1 : (n == 0) = false := beq_eq_false_iff_ne.2 h
  by_cases g : n = 1
  · have h2 : (n == 1) = true := beq_iff_eq.2 g
    rw [h1, h2, Bool.false_or, Bool.true_and]
    clear h g
    go_enter Tryz.func73, Tryz.ntmps73
    go_wp2_with (first | (go_at_call 105; refine (isBadNum_any _ _).mono ?_; rintro e w' ⟨rfl, rfl⟩))
    go_ret
    exact ⟨by simp, (Below.refl _ _).alloc (Nat.le_refl _) _⟩
  · have h2 : (n == 1) = false := beq_eq_false_iff_ne.2 g
    rw [h1, h2, Bool.false_or, Bool.false_and]
    clear h g
    go_enter Tryz.func73, Tryz.ntmps73
    go_wp2_with (first | (go_at_call 105; refine (isBadNum_any _ _).mono ?_; rintro e w' ⟨rfl, rfl⟩))
    go_ret
    exact ⟨by simp, (Below.refl _ _).alloc (Nat.le_refl _) _⟩
set_option maxHeartbeats 1000000 in
theorem isValue_4 (n : Int) (s : ByteArray) (w : World) :
    Calls Tryz.prog 73 #[V 4 n s] w fun e w' => e = .returned (.bool ((decide (1 ≤ n) && decide (n ≤ 6)) && s.toList.isEmpty)) ∧ Below w.heap.size w w' := by
  by_cases h : (decide (1 ≤ n) && decide (n ≤ 6)) = true
  · rw [h, Bool.true_and]
    have HH : Hid ((decide (1 ≤ n) && decide (n ≤ 6)) = true) := h
    clear h
    go_enter Tryz.func73, Tryz.ntmps73
    go_wp2_with fail
    refine (isBadNum_any _ _).mono ?_
    rintro e w' ⟨rfl, rfl⟩
    rw [HH.out]
    go_wp2
    go_ret
    exact ⟨by simp, (Below.refl _ _).alloc (Nat.le_refl _) _⟩
  · rw [Bool.not_eq_true] at h
    rw [h, Bool.false_and]
    have HH : Hid ((decide (1 ≤ n) && decide (n ≤ 6)) = false) := h
    clear h
    go_enter Tryz.func73, Tryz.ntmps73
    go_wp2_with fail
    refine (isBadNum_any _ _).mono ?_
    rintro e w' ⟨rfl, rfl⟩
    rw [HH.out]
    go_wp2
    go_ret
    exact ⟨by simp, (Below.refl _ _).alloc (Nat.le_refl _) _⟩
set_option maxHeartbeats 1000000 in
theorem isValue_none (k n : Int) (s : ByteArray) (w : World) (h0 : (k == 0) = false) (h1 : (k == 1) = false) (h2 : (k == 2) = false) (h3 : (k == 3) = false) (h4 : (k == 4) = false) :
    Calls Tryz.prog 73 #[V k n s] w fun e w' => e = .returned (.bool false) ∧ Below w.heap.size w w' := by
  go_enter Tryz.func73, Tryz.ntmps73
  go_wp2
  go_ret
  exact ⟨rfl, (Below.refl _ _).alloc (Nat.le_refl _) _⟩
theorem isValue_any (k n : Int) (s : ByteArray) (w : World) :
    Calls Tryz.prog 73 #[V k n s] w fun e w' => e = .returned (.bool (isVal k n s)) ∧ Below w.heap.size w w' := by
  unfold isVal
  by_cases h0 : k = 0
  · subst h0; rw [if_pos rfl]; exact isValue_0 n s w
  by_cases h1 : k = 1
  · subst h1; rw [if_neg h0, if_pos rfl]; exact isValue_1 n s w
  by_cases h2 : k = 2
  · subst h2; rw [if_neg h0, if_neg h1, if_pos rfl]; exact isValue_2 n s w
  by_cases h3 : k = 3
  · subst h3; rw [if_neg h0, if_neg h1, if_neg h2, if_pos rfl]; exact isValue_3 n s w
  by_cases h4 : k = 4
  · subst h4; rw [if_neg h0, if_neg h1, if_neg h2, if_neg h3, if_pos rfl]; exact isValue_4 n s w
  rw [if_neg h0, if_neg h1, if_neg h2, if_neg h3, if_neg h4]
  exact isValue_none k n s w (beq_eq_false_iff_ne.2 h0) (beq_eq_false_iff_ne.2 h1) (beq_eq_false_iff_ne.2 h2) (beq_eq_false_iff_ne.2 h3) (beq_eq_false_iff_ne.2 h4)
set_option maxHeartbeats 1000000 in
theorem check_yes (k n : Int) (s : ByteArray) (w : World) (h : isVal k n s = true) :
    Calls Tryz.prog 43 #[V k n s] w fun e w' => e = .returned .nilIface ∧ Below w.heap.size w w' := by
  have HH : Hid (isVal k n s = true) := h
  clear h
  go_enter Tryz.func43, Tryz.ntmps43
  go_wp2_with fail
  refine (isValue_any _ _ _ _).mono ?_
  rintro e w1 ⟨rfl, h1⟩
  rw [HH.out]
  go_wp2
  go_ret
  exact ⟨rfl, bnext ((Below.refl _ _).alloc (Nat.le_refl _) _) h1 (by simp)⟩
set_option maxHeartbeats 1000000 in
theorem check_no (k n : Int) (s : ByteArray) (w : World) (h : isVal k n s = false) :
    Calls Tryz.prog 43 #[V k n s] w fun e w' => e = .returned (.iface 62 (.int .i64 1)) ∧ Below w.heap.size w w' := by
  have HH : Hid (isVal k n s = false) := h
  clear h
  go_enter Tryz.func43, Tryz.ntmps43
  go_wp2_with fail
  refine (isValue_any _ _ _ _).mono ?_
  rintro e w1 ⟨rfl, h1⟩
  rw [HH.out]
  go_wp2
  go_ret
  exact ⟨rfl, bnext ((Below.refl _ _).alloc (Nat.le_refl _) _) h1 (by simp)⟩
theorem toList_nil {s : ByteArray} (h : s.toList.isEmpty = true) : s = nul := by
  rw [ByteArray.toList_eq, List.isEmpty_iff] at h
  obtain ⟨⟨l⟩⟩ := s
  simp at h
  subst h
  rfl
set_option maxHeartbeats 400000 in
theorem firstBad_no (k n k' n' : Int) (s s' : ByteArray) (w : World) (h : (k == 4) = false) (h' : (k' == 4) = false) :
    Calls Tryz.prog 107 #[V k n s, V k' n' s'] w fun e w' => e = .returned (.tuple #[V 0 0 nul, .bool false]) ∧ Below w.heap.size w w' := by
  go_enter Tryz.func107, Tryz.ntmps107
  go_wp2
  exact bodyPost_ret (v := .tuple #[V 0 0 nul, .bool false]) (by simp [results, Tryz.results107, go_sem]) rfl ⟨rfl, by (repeat (first | exact Below.refl _ _ | assumption | (refine Below.setCell ?_ (by first | omega | (simp <;> omega)) _) | (refine Below.alloc ?_ (by first | omega | (simp <;> omega)) _) | (refine Below.drew ?_) | (refine Below.trans ?_ (Below.mono (by assumption) (by first | omega | (simp <;> omega))))))⟩
set_option maxHeartbeats 400000 in
theorem blankAs_blank (kk n : Int) (s : ByteArray) (w : World) :
    Calls Tryz.prog 111 #[.int .i64 kk, V 0 n s] w fun e w' => e = .returned (V kk 0 nul) ∧ Below w.heap.size w w' := by
  go_enter Tryz.func111, Tryz.ntmps111
  go_wp2
  exact bodyPost_ret (v := V kk 0 nul) (by simp [results, Tryz.results111, go_sem]) rfl ⟨rfl, by (repeat (first | exact Below.refl _ _ | assumption | (refine Below.setCell ?_ (by first | omega | (simp <;> omega)) _) | (refine Below.alloc ?_ (by first | omega | (simp <;> omega)) _) | (refine Below.drew ?_) | (refine Below.trans ?_ (Below.mono (by assumption) (by first | omega | (simp <;> omega))))))⟩
set_option maxHeartbeats 400000 in
theorem blankAs_other (kk k n : Int) (s : ByteArray) (w : World) (h : (k == 0) = false) :
    Calls Tryz.prog 111 #[.int .i64 kk, V k n s] w fun e w' => e = .returned (V k n s) ∧ Below w.heap.size w w' := by
  go_enter Tryz.func111, Tryz.ntmps111
  go_wp2
  exact bodyPost_ret (v := V k n s) (by simp [results, Tryz.results111, go_sem]) rfl ⟨rfl, by (repeat (first | exact Below.refl _ _ | assumption | (refine Below.setCell ?_ (by first | omega | (simp <;> omega)) _) | (refine Below.alloc ?_ (by first | omega | (simp <;> omega)) _) | (refine Below.drew ?_) | (refine Below.trans ?_ (Below.mono (by assumption) (by first | omega | (simp <;> omega))))))⟩
theorem lt_of_blk {w : World} {b : Nat} {o : Obj} (h : w.heap[b]? = some o) : b < w.heap.size := fm.lt_blk h
theorem drew_below (w : World) : Below w.heap.size w w.drew := (Below.refl _ _).drew
theorem blk_set {w : World} {b o : Nat} {cs : Array Value} {u : Value} {t : TypeId} {f : Nat × Nat} (h : w.heap[b]? = some (.cells cs t f)) : (w.setCell ⟨b, o, none⟩ u).heap[b]? = some (.cells (cs.setIfInBounds o u) t f) := fm.blk_set h
theorem cmpI_neg (a b : Int) : cmpI a b = -cmpI b a := by unfold cmpI; split <;> split <;> omega
theorem cmpI_zero {a b : Int} : cmpI a b = 0 ↔ a = b := by unfold cmpI; split <;> (try split) <;> omega
theorem cmpI_bd (a b : Int) : -1 ≤ cmpI a b ∧ cmpI a b ≤ 1 := by unfold cmpI; split <;> (try split) <;> omega
theorem cmpI_le {a b : Int} : cmpI a b ≤ 0 ↔ a ≤ b := by unfold cmpI; split <;> (try split) <;> omega
theorem cb_neg : ∀ a b : List UInt8, Lib.compareBytes a b = -Lib.compareBytes b a
  | [], [] => by simp [Lib.compareBytes]
  | [], _ :: _ => by simp [Lib.compareBytes]
  | _ :: _, [] => by simp [Lib.compareBytes]
  | a :: al, b :: bl => by
    have ih := cb_neg al bl
    simp only [Lib.compareBytes]
    by_cases h : a < b
    · have h2 : ¬ b < a := by rw [UInt8.lt_iff_toNat_lt] at *; omega
      rw [if_pos h, if_neg h2, if_pos h]
    · by_cases h2 : b < a
      · rw [if_neg h, if_pos h2, if_pos h2]; rfl
      · rw [if_neg h, if_neg h2, if_neg h2, if_neg h]; exact ih
theorem cb_zero : ∀ {a b : List UInt8}, Lib.compareBytes a b = 0 ↔ a = b
  | [], [] => by simp [Lib.compareBytes]
  | [], _ :: _ => by simp [Lib.compareBytes]
  | _ :: _, [] => by simp [Lib.compareBytes]
  | a :: al, b :: bl => by
    have ih := cb_zero (a := al) (b := bl)
    simp only [Lib.compareBytes]
    by_cases h : a < b
    · rw [if_pos h]
      have : a ≠ b := by rintro rfl; rw [UInt8.lt_iff_toNat_lt] at h; omega
      simp [this]
    · by_cases h2 : b < a
      · rw [if_neg h, if_pos h2]
        have : a ≠ b := by rintro rfl; rw [UInt8.lt_iff_toNat_lt] at h2; omega
        simp [this]
      · rw [if_neg h, if_neg h2]
        have : a = b := by rw [UInt8.lt_iff_toNat_lt] at *; exact UInt8.toNat_inj.1 (by omega)
        simp [this, ih]
theorem cb_bd : ∀ a b : List UInt8, -1 ≤ Lib.compareBytes a b ∧ Lib.compareBytes a b ≤ 1
  | [], [] => by simp [Lib.compareBytes]
  | [], _ :: _ => by simp [Lib.compareBytes]
  | _ :: _, [] => by simp [Lib.compareBytes]
  | a :: al, b :: bl => by
    have ih := cb_bd al bl
    simp only [Lib.compareBytes]
    split
    · omega
    · split
      · omega
      · exact ih
theorem cb_trans : ∀ {a b c : List UInt8}, Lib.compareBytes a b ≤ 0 → Lib.compareBytes b c ≤ 0 → Lib.compareBytes a c ≤ 0
  | [], _, [] => by simp [Lib.compareBytes]
  | [], _, _ :: _ => by simp [Lib.compareBytes]
  | _ :: _, [], _ => by simp [Lib.compareBytes]
  | _ :: _, _ :: _, [] => by simp [Lib.compareBytes]
  | a :: al, b :: bl, c :: cl => by
    have ih := cb_trans (a := al) (b := bl) (c := cl)
    simp only [Lib.compareBytes]
    intro h1 h2
    by_cases p : a < b
    · by_cases q : b < c
      · rw [if_pos (by rw [UInt8.lt_iff_toNat_lt] at *; omega)]; omega
      · rw [if_neg q] at h2
        by_cases r : c < b
        · rw [if_pos r] at h2; omega
        · have e : b = c := by rw [UInt8.lt_iff_toNat_lt] at *; exact UInt8.toNat_inj.1 (by omega)
          subst e; rw [if_pos p]; omega
    · rw [if_neg p] at h1
      by_cases r : b < a
      · rw [if_pos r] at h1; omega
      · rw [if_neg r] at h1
        have e : a = b := by rw [UInt8.lt_iff_toNat_lt] at *; exact UInt8.toNat_inj.1 (by omega)
        subst e
        by_cases q : a < c
        · rw [if_pos q]; omega
        · rw [if_neg q] at h2 ⊢
          by_cases r2 : c < a
          · rw [if_pos r2] at h2; omega
          · rw [if_neg r2] at h2 ⊢; exact ih h1 h2
theorem cmpS_zero {a b : ByteArray} : cmpS a b = 0 ↔ a = b := by
  unfold cmpS
  rw [cb_zero]
  constructor
  · intro h
    obtain ⟨⟨l⟩⟩ := a
    obtain ⟨⟨m⟩⟩ := b
    simp at h
    rw [h]
  · rintro rfl; rfl
theorem cmpV_neg (k n : Int) (s : ByteArray) (k' n' : Int) (s' : ByteArray) : cmpV k n s k' n' s' = -cmpV k' n' s' k n s := by
  unfold cmpV
  have e := cmpI_neg k k'
  by_cases h : cmpI k k' = 0
  · have hk := cmpI_zero.1 h
    subst hk
    have hh : ¬ (cmpI k k ≠ 0) := by simp [h]
    rw [if_neg hh, if_neg hh]
    by_cases h2 : k = 2
    · rw [if_pos h2, if_pos h2]; exact cb_neg _ _
    · rw [if_neg h2, if_neg h2]; exact cmpI_neg _ _
  · rw [if_pos h, if_pos (by omega)]; exact e
theorem cmpV_bd (k n : Int) (s : ByteArray) (k' n' : Int) (s' : ByteArray) : -1 ≤ cmpV k n s k' n' s' ∧ cmpV k n s k' n' s' ≤ 1 := by
  unfold cmpV
  split
  · exact cmpI_bd _ _
  · split
    · exact cb_bd _ _
    · exact cmpI_bd _ _
theorem cmpV_trans {k n : Int} {s : ByteArray} {k' n' : Int} {s' : ByteArray} {k2 n2 : Int} {s2 : ByteArray} (h1 : cmpV k n s k' n' s' ≤ 0) (h2 : cmpV k' n' s' k2 n2 s2 ≤ 0) : cmpV k n s k2 n2 s2 ≤ 0 := by
  unfold cmpV at *
  by_cases a : cmpI k k' = 0
  · have hk := cmpI_zero.1 a
    subst hk
    rw [if_neg (by simpa using a)] at h1
    by_cases b : cmpI k k2 = 0
    · have hk := cmpI_zero.1 b
      subst hk
      rw [if_neg (by simpa using a)] at h2 ⊢
      by_cases c : k = 2
      · rw [if_pos c] at *; exact cb_trans h1 h2
      · rw [if_neg c] at *; rw [cmpI_le] at *; omega
    · rw [if_pos b] at h2 ⊢; exact h2
  · rw [if_pos a, cmpI_le] at h1
    have hne : k ≠ k' := fun e => a (cmpI_zero.2 e)
    by_cases b : cmpI k' k2 = 0
    · have hk := cmpI_zero.1 b
      subst hk
      rw [if_pos a, cmpI_le]; exact h1
    · rw [if_pos b, cmpI_le] at h2
      rw [if_pos (fun e => hne (by have := cmpI_zero.1 e; omega)), cmpI_le]; omega
/-- What a value's kind says of its other fields. -/
theorem isVal_num {k n : Int} {s : ByteArray} (h : isVal k n s = true) (h2 : k ≠ 2) : s = nul := by
  unfold isVal at h
  rw [if_neg h2] at h
  apply toList_nil
  repeat' (split at h)
  all_goals simp_all
theorem isVal_txt {n : Int} {s : ByteArray} (h : isVal 2 n s = true) : n = 0 := by
  unfold isVal at h
  simp at h
  exact h.1
theorem cmpV_zero {k n : Int} {s : ByteArray} {k' n' : Int} {s' : ByteArray} (h : isVal k n s = true) (h' : isVal k' n' s' = true) : cmpV k n s k' n' s' = 0 ↔ k = k' ∧ n = n' ∧ s = s' := by
  unfold cmpV
  by_cases a : cmpI k k' = 0
  · have hk := cmpI_zero.1 a
    subst hk
    rw [if_neg (by simpa using a)]
    by_cases c : k = 2
    · subst c
      rw [if_pos rfl, cmpS_zero]
      have e1 := isVal_txt h
      have e2 := isVal_txt h'
      simp [e1, e2]
    · rw [if_neg c, cmpI_zero]
      have e1 := isVal_num h c
      have e2 := isVal_num h' c
      simp [e1, e2]
  · rw [if_pos a]
    have hne : k ≠ k' := fun e => a (cmpI_zero.2 e)
    simp [a, hne]
theorem hat (w : World) (o : Obj) (i : Nat) (h : i = w.heap.size) : (w.alloc o).heap[i]? = some o := by subst h; exact heap_alloc_new w o
theorem bset {w : World} {b o : Nat} {cs : Array Value} {u : Value} {t : TypeId} {f : Nat × Nat} (h : w.heap[b]? = some (.cells cs t f)) : (w.setCell ⟨b, o, none⟩ u).heap[b]? = some (.cells (cs.setIfInBounds o u) t f) := blk_set h
theorem cells3 {w : World} {b : Nat} {a0 a1 a2 : Value} {t : TypeId} (h : w.heap[b]? = some (.cells #[a0, a1, a2] t (0, 0))) :
    (w.cell? ⟨b, 0, none⟩ = some a0 ∧ w.cell? ⟨b, 1, none⟩ = some a1 ∧ w.cell? ⟨b, 2, none⟩ = some a2) ∧ (w.frozen? ⟨b, 0, none⟩ = false ∧ w.frozen? ⟨b, 1, none⟩ = false ∧ w.frozen? ⟨b, 2, none⟩ = false) := by
  simp [World.cell?, World.frozen?, h]
theorem set3 {w : World} {b : Nat} {a0 a1 a2 u0 u1 u2 : Value} {t : TypeId} (h : w.heap[b]? = some (.cells #[a0, a1, a2] t (0, 0))) :
    (((w.setCell ⟨b, 0, none⟩ u0).setCell ⟨b, 1, none⟩ u1).setCell ⟨b, 2, none⟩ u2).heap[b]? = some (.cells #[u0, u1, u2] t (0, 0)) := by
  rw [bset (bset (bset h))]
  rfl
theorem below3 {w : World} {b B : Nat} (hB : B ≤ b) {u0 u1 u2 : Value} : Below B w (((w.setCell ⟨b, 0, none⟩ u0).setCell ⟨b, 1, none⟩ u1).setCell ⟨b, 2, none⟩ u2) :=
  (((Below.refl _ _).setCell hB _).setCell hB _).setCell hB _
abbrev O3 (k n : Int) (s : ByteArray) : Obj := .cells #[.int .i64 k, .int .i64 n, .string s] 31
theorem bk {wx wy : World} {b : Nat} {o : Obj} (h : wx.heap[b]? = some o) (hb : Below wx.heap.size wx wy) : wy.heap[b]? = some o := by rw [hb.block _ (lt_of_blk h)]; exact h
theorem bkA {wx : World} {b : Nat} {o : Obj} (h : wx.heap[b]? = some o) (o' : Obj) : (wx.alloc o').heap[b]? = some o := bk h ((Below.refl _ _).alloc (Nat.le_refl _) _)
theorem val_kinds {k n : Int} {s : ByteArray} (h : isVal k n s = true) : (k = 0 ∧ s = nul) ∨ (k = 1 ∧ s = nul) ∨ (k = 2 ∧ (s.size : Int) ≤ 200) ∨ (k = 3 ∧ s = nul) ∨ (k = 4 ∧ s = nul) := by
  unfold isVal at h
  by_cases h0 : k = 0
  · rw [if_pos h0, Bool.and_eq_true] at h; exact Or.inl ⟨h0, toList_nil h.2⟩
  rw [if_neg h0] at h
  by_cases h1 : k = 1
  · rw [if_pos h1] at h; exact Or.inr (Or.inl ⟨h1, toList_nil h⟩)
  rw [if_neg h1] at h
  by_cases h2 : k = 2
  · rw [if_pos h2, Bool.and_eq_true, decide_eq_true_eq] at h; exact Or.inr (Or.inr (Or.inl ⟨h2, h.2⟩))
  rw [if_neg h2] at h
  by_cases h3 : k = 3
  · rw [if_pos h3, Bool.and_eq_true] at h; exact Or.inr (Or.inr (Or.inr (Or.inl ⟨h3, toList_nil h.2⟩)))
  rw [if_neg h3] at h
  by_cases h4 : k = 4
  · rw [if_pos h4, Bool.and_eq_true] at h; exact Or.inr (Or.inr (Or.inr (Or.inr ⟨h4, toList_nil h.2⟩)))
  rw [if_neg h4] at h
  cases h
abbrev B64 (n : Int) : Prop := -9223372036854775808 ≤ n ∧ n ≤ 9223372036854775807
/-- Two values, each in a block of its own, and the answer's. -/
structure MS (w : World) (k n : Int) (s : ByteArray) (k' n' : Int) (s' : ByteArray) (wx : World) : Prop where
  a : wx.heap[w.heap.size]? = some (O3 k n s)
  b : wx.heap[w.heap.size + 1]? = some (O3 k' n' s')
  res : wx.heap[w.heap.size + 2]? = some (O3 0 0 nul)
  below : Below w.heap.size w wx
theorem MS.start (w : World) (k n : Int) (s : ByteArray) (k' n' : Int) (s' : ByteArray) : MS w k n s k' n' s' (((w.alloc (O3 k n s)).alloc (O3 k' n' s')).alloc (O3 0 0 nul)) :=
  ⟨by rw [Below.heap_alloc _ _ _ (by simp; omega), Below.heap_alloc _ _ _ (by simp), hat _ _ _ rfl], by rw [Below.heap_alloc _ _ _ (by simp), hat _ _ _ (by simp)], hat _ _ _ (by simp), (((Below.refl _ _).alloc (Nat.le_refl _) _).alloc (by simp) _).alloc (by simp; omega) _⟩
section
variable {w wx : World} {k n : Int} {s : ByteArray} {k' n' : Int} {s' : ByteArray}
theorem MS.lt (h : MS w k n s k' n' s' wx) : w.heap.size + 2 < wx.heap.size := lt_of_blk h.res
theorem MS.next {wy : World} (h : MS w k n s k' n' s' wx) (hb : Below wx.heap.size wx wy) : MS w k n s k' n' s' wy := ⟨bk h.a hb, bk h.b hb, bk h.res hb, bnext h.below hb h.below.size⟩
theorem MS.alloc (h : MS w k n s k' n' s' wx) (o : Obj) : MS w k n s k' n' s' (wx.alloc o) := h.next ((Below.refl _ _).alloc (Nat.le_refl _) _)
theorem MS.setA (h : MS w k n s k' n' s' wx) (u v : Int) (t : ByteArray) : MS w u v t k' n' s' (((wx.setCell ⟨w.heap.size, 0, none⟩ (.int .i64 u)).setCell ⟨w.heap.size, 1, none⟩ (.int .i64 v)).setCell ⟨w.heap.size, 2, none⟩ (.string t)) :=
  ⟨set3 h.a, by rw [Below.heap_setCell _ _ _ _ (by simp), Below.heap_setCell _ _ _ _ (by simp), Below.heap_setCell _ _ _ _ (by simp)]; exact h.b, by rw [Below.heap_setCell _ _ _ _ (by simp), Below.heap_setCell _ _ _ _ (by simp), Below.heap_setCell _ _ _ _ (by simp)]; exact h.res, h.below.trans (below3 (Nat.le_refl _))⟩
theorem MS.setB (h : MS w k n s k' n' s' wx) (u v : Int) (t : ByteArray) : MS w k n s u v t (((wx.setCell ⟨w.heap.size + 1, 0, none⟩ (.int .i64 u)).setCell ⟨w.heap.size + 1, 1, none⟩ (.int .i64 v)).setCell ⟨w.heap.size + 1, 2, none⟩ (.string t)) :=
  ⟨by rw [Below.heap_setCell _ _ _ _ (by simp), Below.heap_setCell _ _ _ _ (by simp), Below.heap_setCell _ _ _ _ (by simp)]; exact h.a, set3 h.b, by rw [Below.heap_setCell _ _ _ _ (by simp), Below.heap_setCell _ _ _ _ (by simp), Below.heap_setCell _ _ _ _ (by simp)]; exact h.res, h.below.trans (below3 (by omega))⟩
end --
theorem bl_cbt : ∀ a b : List UInt8, Op.bytesLess a b = true ↔ Lib.compareBytes a b < 0
  | [], [] => by simp [Lib.compareBytes, Op.bytesLess]
  | [], _ :: _ => by simp [Lib.compareBytes, Op.bytesLess]
  | _ :: _, [] => by simp [Lib.compareBytes, Op.bytesLess]
  | a :: al, b :: bl => by
    have ih := bl_cbt al bl
    have e1 : Lib.compareBytes (a :: al) (b :: bl) = if a < b then -1 else if b < a then 1 else Lib.compareBytes al bl := rfl
    have e2 : Op.bytesLess (a :: al) (b :: bl) = (decide (a < b) || (a == b && Op.bytesLess al bl)) := rfl
    rw [e1, e2]
    by_cases h : a < b
    · rw [if_pos h, decide_eq_true h]; simp
    · rw [if_neg h, decide_eq_false h, Bool.false_or]
      by_cases h2 : b < a
      · have hne : a ≠ b := by rintro rfl; exact h h2
        rw [if_pos h2, beq_eq_false_iff_ne.2 hne]; simp
      · have he : a = b := by rw [UInt8.lt_iff_toNat_lt] at *; exact UInt8.toNat_inj.1 (by omega)
        rw [if_neg h2, beq_iff_eq.2 he, Bool.true_and, ih]
theorem bl_cb (a b : List UInt8) : Op.bytesLess a b = decide (Lib.compareBytes a b < 0) := by
  rw [Bool.eq_iff_iff, bl_cbt, decide_eq_true_iff]
theorem cmpI_ltd (a b : Int) : decide (cmpI a b < 0) = decide (a < b) := by
  apply decide_eq_decide.2; unfold cmpI; split <;> (try split) <;> omega
set_option maxHeartbeats 2000000 in
theorem less_kind (k n k' n' : Int) (s s' : ByteArray) (w : World) (h : (k != k') = true) :
    Calls Tryz.prog 62 #[V k n s, V k' n' s'] w fun e w' => e = .returned (.bool (decide (k < k'))) ∧ Below w.heap.size w w' := by
  go_enter Tryz.func62, Tryz.ntmps62
  go_wp2_with fail
  go_ret
  exact ⟨rfl, ((Below.refl _ _).alloc (Nat.le_refl _) _).alloc (by simp) _⟩
set_option maxHeartbeats 2000000 in
theorem less_txt (n n' : Int) (s s' : ByteArray) (w : World) :
    Calls Tryz.prog 62 #[V 2 n s, V 2 n' s'] w fun e w' => e = .returned (.bool (Op.bytesLess s.toList s'.toList)) ∧ Below w.heap.size w w' := by
  go_enter Tryz.func62, Tryz.ntmps62
  go_wp2_with fail
  go_ret
  exact ⟨rfl, ((Below.refl _ _).alloc (Nat.le_refl _) _).alloc (by simp) _⟩
set_option maxHeartbeats 2000000 in
theorem less_num (k n n' : Int) (s s' : ByteArray) (w : World) (h : (k == 2) = false) :
    Calls Tryz.prog 62 #[V k n s, V k n' s'] w fun e w' => e = .returned (.bool (decide (n < n'))) ∧ Below w.heap.size w w' := by
  go_enter Tryz.func62, Tryz.ntmps62
  go_wp2_with fail
  go_ret
  exact ⟨rfl, ((Below.refl _ _).alloc (Nat.le_refl _) _).alloc (by simp) _⟩
theorem less_any (k n k' n' : Int) (s s' : ByteArray) (w : World) :
    Calls Tryz.prog 62 #[V k n s, V k' n' s'] w fun e w' => e = .returned (.bool (decide (cmpV k n s k' n' s' < 0))) ∧ Below w.heap.size w w' := by
  by_cases hk : k = k'
  · subst hk
    have h0 : ¬ (cmpI k k ≠ 0) := by simp [cmpI]
    by_cases h2 : k = 2
    · subst h2
      have := less_txt n n' s s' w
      rw [bl_cb, ByteArray.toList_eq, ByteArray.toList_eq] at this
      unfold cmpV
      rw [if_neg h0, if_pos rfl]
      exact this
    · unfold cmpV
      rw [if_neg h0, if_neg h2, cmpI_ltd]
      exact less_num k n n' s s' w (beq_eq_false_iff_ne.2 h2)
  · unfold cmpV
    rw [if_pos (fun e => hk (cmpI_zero.1 e)), cmpI_ltd]
    exact less_kind k n k' n' s s' w (bne_iff_ne.2 hk)
/-- Two values, each in a block of its own. -/
structure PS (w : World) (k n : Int) (s : ByteArray) (k' n' : Int) (s' : ByteArray) (wx : World) : Prop where
  a : wx.heap[w.heap.size]? = some (O3 k n s)
  b : wx.heap[w.heap.size + 1]? = some (O3 k' n' s')
  below : Below w.heap.size w wx
theorem PS.start (w : World) (k n : Int) (s : ByteArray) (k' n' : Int) (s' : ByteArray) : PS w k n s k' n' s' ((w.alloc (O3 k n s)).alloc (O3 k' n' s')) :=
  ⟨by rw [Below.heap_alloc _ _ _ (by simp), hat _ _ _ rfl], hat _ _ _ (by simp), ((Below.refl _ _).alloc (Nat.le_refl _) _).alloc (by simp) _⟩
theorem PS.next {w wx wy : World} {k n : Int} {s : ByteArray} {k' n' : Int} {s' : ByteArray} (h : PS w k n s k' n' s' wx) (hb : Below wx.heap.size wx wy) : PS w k n s k' n' s' wy := ⟨bk h.a hb, bk h.b hb, bnext h.below hb h.below.size⟩
set_option maxHeartbeats 4000000 in
theorem rcompare_any (k n k' n' : Int) (s s' : ByteArray) (w : World) :
    Calls Tryz.prog 34 #[V k n s, V k' n' s'] w fun e w' => e = .returned (.int .i64 (cmpV k n s k' n' s')) ∧ Below w.heap.size w w' := by
  have hS := PS.start w k n s k' n' s'
  obtain ⟨c, hc⟩ : ∃ c, cmpV k n s k' n' s' = c := ⟨_, rfl⟩
  have HC1 : Hid (cmpV k n s k' n' s' = c) := hc
  have HC2 : Hid (cmpV k' n' s' k n s = -c) := by unfold Hid; rw [cmpV_neg, hc]
  have HB : Hid (-1 ≤ c ∧ c ≤ 1) := by unfold Hid; rw [← hc]; exact cmpV_bd _ _ _ _ _ _
  rw [hc]
  clear hc
  go_enter Tryz.func34, Tryz.ntmps34
  obtain ⟨⟨o0, o1, o2⟩, p0, p1, p2⟩ := cells3 hS.a
  obtain ⟨⟨a0, a1, a2⟩, c0, c1, c2⟩ := cells3 hS.b
  go_wp2_with fail
  refine (less_any _ _ _ _ _ _ _).mono ?_
  rintro e w1 ⟨rfl, q1⟩
  rw [HC1.out]
  replace hS := hS.next q1
  clear o0 o1 o2 p0 p1 p2 a0 a1 a2 c0 c1 c2
  obtain ⟨⟨o0, o1, o2⟩, p0, p1, p2⟩ := cells3 hS.a
  obtain ⟨⟨a0, a1, a2⟩, c0, c1, c2⟩ := cells3 hS.b
  go_wp2_with fail
  refine (less_any _ _ _ _ _ _ _).mono ?_
  rintro e w2 ⟨rfl, q2⟩
  rw [HC2.out]
  replace hS := hS.next q2
  have hB := hS.below
  have hb := HB.out
  by_cases h1 : c < 0
  · have e1 : decide (c < 0) = true := decide_eq_true h1
    obtain rfl : c = -1 := by omega
    go_wp2_with fail
    go_ret
    exact ⟨rfl, hB⟩
  · by_cases h2 : -c < 0
    · obtain rfl : c = 1 := by omega
      go_wp2_with fail
      go_ret
      exact ⟨rfl, hB⟩
    · obtain rfl : c = 0 := by omega
      go_wp2_with fail
      go_ret
      exact ⟨rfl, hB⟩
/-- A value beside another: what is blank takes the other's kind. -/
def bsK (k k' : Int) : Int := if k = 0 then (if k' = 4 then 0 else k') else k
def bsN (k n : Int) : Int := if k = 0 then 0 else n
def bsS (k : Int) (s : ByteArray) : ByteArray := if k = 0 then nul else s
set_option maxHeartbeats 4000000 in
theorem beside_self (k n k' n' : Int) (s s' : ByteArray) (w : World) (h : (k == 0) = false) :
    Calls Tryz.prog 35 #[V k n s, V k' n' s'] w fun e w' => e = .returned (V k n s) ∧ Below w.heap.size w w' := by
  go_enter Tryz.func35, Tryz.ntmps35
  go_wp2_with fail
  exact bodyPost_ret (v := V k n s) (by simp [results, Tryz.results35, go_sem]) rfl ⟨rfl, by (repeat (first | exact Below.refl _ _ | assumption | (refine Below.setCell ?_ (by first | omega | (simp <;> omega)) _) | (refine Below.alloc ?_ (by first | omega | (simp <;> omega)) _) | (refine Below.drew ?_) | (refine Below.trans ?_ (Below.mono (by assumption) (by first | omega | (simp <;> omega))))))⟩
set_option maxHeartbeats 4000000 in
theorem beside_0 (k' n' : Int) (s' : ByteArray) (w : World) (h1 : (k' == 1) = false) (h2 : (k' == 2) = false) (h3 : (k' == 3) = false) :
    Calls Tryz.prog 35 #[V 0 0 nul, V k' n' s'] w fun e w' => e = .returned (V 0 0 nul) ∧ Below w.heap.size w w' := by
  go_enter Tryz.func35, Tryz.ntmps35
  go_wp2_with fail
  exact bodyPost_ret (v := V 0 0 nul) (by simp [results, Tryz.results35, go_sem]) rfl ⟨rfl, by (repeat (first | exact Below.refl _ _ | assumption | (refine Below.setCell ?_ (by first | omega | (simp <;> omega)) _) | (refine Below.alloc ?_ (by first | omega | (simp <;> omega)) _) | (refine Below.drew ?_) | (refine Below.trans ?_ (Below.mono (by assumption) (by first | omega | (simp <;> omega))))))⟩
set_option maxHeartbeats 4000000 in
theorem beside_1 (n' : Int) (s' : ByteArray) (w : World) :
    Calls Tryz.prog 35 #[V 0 0 nul, V 1 n' s'] w fun e w' => e = .returned (V 1 0 nul) ∧ Below w.heap.size w w' := by
  have hS := MS.start w 0 0 nul 1 n' s'
  go_enter Tryz.func35, Tryz.ntmps35
  go_wp2_with fail
  refine (rnum_any _ _).mono ?_
  rintro e w1 ⟨rfl, q1⟩
  replace hS := hS.next q1
  obtain ⟨⟨r0, r1, r2⟩, t0, t1, t2⟩ := cells3 hS.res
  have hB := hS.below
  go_wp2_with fail
  exact bodyPost_ret (v := V 1 0 nul) (by simp [results, Tryz.results35, go_sem, r0, r1, r2]) rfl ⟨rfl, hB.trans (below3 (by omega))⟩
set_option maxHeartbeats 4000000 in
theorem beside_2 (n' : Int) (s' : ByteArray) (w : World) :
    Calls Tryz.prog 35 #[V 0 0 nul, V 2 n' s'] w fun e w' => e = .returned (V 2 0 nul) ∧ Below w.heap.size w w' := by
  have hS := MS.start w 0 0 nul 2 n' s'
  go_enter Tryz.func35, Tryz.ntmps35
  go_wp2_with fail
  refine (rtxt_any _ _).mono ?_
  rintro e w1 ⟨rfl, q1⟩
  replace hS := hS.next q1
  obtain ⟨⟨r0, r1, r2⟩, t0, t1, t2⟩ := cells3 hS.res
  have hB := hS.below
  go_wp2_with fail
  exact bodyPost_ret (v := V 2 0 nul) (by simp [results, Tryz.results35, go_sem, r0, r1, r2]) rfl ⟨rfl, hB.trans (below3 (by omega))⟩
set_option maxHeartbeats 4000000 in
theorem beside_3 (n' : Int) (s' : ByteArray) (w : World) :
    Calls Tryz.prog 35 #[V 0 0 nul, V 3 n' s'] w fun e w' => e = .returned (V 3 0 nul) ∧ Below w.heap.size w w' := by
  have hS := MS.start w 0 0 nul 3 n' s'
  go_enter Tryz.func35, Tryz.ntmps35
  go_wp2_with fail
  refine (rtru_any _ _).mono ?_
  rintro e w1 ⟨rfl, q1⟩
  replace hS := hS.next q1
  obtain ⟨⟨r0, r1, r2⟩, t0, t1, t2⟩ := cells3 hS.res
  have hB := hS.below
  go_wp2_with fail
  exact bodyPost_ret (v := V 3 0 nul) (by simp [results, Tryz.results35, go_sem, r0, r1, r2, b2n]) rfl ⟨rfl, hB.trans (below3 (by omega))⟩
theorem val_zero {n : Int} {s : ByteArray} (h : isVal 0 n s = true) : n = 0 ∧ s = nul := by
  unfold isVal at h
  rw [if_pos rfl, Bool.and_eq_true, beq_iff_eq] at h
  exact ⟨h.1, toList_nil h.2⟩
theorem beside_any (k n k' n' : Int) (s s' : ByteArray) (w : World) (hv : isVal k n s = true) (hv' : isVal k' n' s' = true) :
    Calls Tryz.prog 35 #[V k n s, V k' n' s'] w fun e w' => e = .returned (V (bsK k k') (bsN k n) (bsS k s)) ∧ Below w.heap.size w w' := by
  unfold bsK bsN bsS
  by_cases h0 : k = 0
  · subst h0
    obtain ⟨rfl, rfl⟩ := val_zero hv
    rw [if_pos rfl, if_pos rfl, if_pos rfl]
    rcases val_kinds hv' with ⟨rfl, _⟩ | ⟨rfl, _⟩ | ⟨rfl, _⟩ | ⟨rfl, _⟩ | ⟨rfl, _⟩
    · exact beside_0 0 n' s' w (by decide) (by decide) (by decide)
    · exact beside_1 n' s' w
    · exact beside_2 n' s' w
    · exact beside_3 n' s' w
    · exact beside_0 4 n' s' w (by decide) (by decide) (by decide)
  · rw [if_neg h0, if_neg h0, if_neg h0]
    exact beside_self k n k' n' s s' w (beq_eq_false_iff_ne.2 h0)
/-- The two values, opened. -/
abbrev MO (w : World) (k n : Int) (s : ByteArray) (k' n' : Int) (s' : ByteArray) (wx : World) : Prop :=
  wx.cell? ⟨w.heap.size, 0, none⟩ = some (.int .i64 k) ∧ wx.cell? ⟨w.heap.size, 1, none⟩ = some (.int .i64 n) ∧ wx.cell? ⟨w.heap.size, 2, none⟩ = some (.string s) ∧ wx.cell? ⟨w.heap.size + 1, 0, none⟩ = some (.int .i64 k') ∧ wx.cell? ⟨w.heap.size + 1, 1, none⟩ = some (.int .i64 n') ∧ wx.cell? ⟨w.heap.size + 1, 2, none⟩ = some (.string s') ∧ MS w k n s k' n' s' wx
theorem MS.opened {w : World} {k n : Int} {s : ByteArray} {k' n' : Int} {s' : ByteArray} {wx : World} (h : MS w k n s k' n' s' wx) : MO w k n s k' n' s' wx := by
  obtain ⟨⟨o0, o1, o2⟩, -⟩ := cells3 h.a
  obtain ⟨⟨a0, a1, a2⟩, -⟩ := cells3 h.b
  exact ⟨o0, o1, o2, a0, a1, a2, h⟩
theorem mo_ms {w : World} {k n : Int} {s : ByteArray} {k' n' : Int} {s' : ByteArray} {wx : World} (h : MO w k n s k' n' s' wx) : MS w k n s k' n' s' wx := h.2.2.2.2.2.2
theorem mo_below {w : World} {k n : Int} {s : ByteArray} {k' n' : Int} {s' : ByteArray} {wx wy : World} (h : MO w k n s k' n' s' wx) (hb : Below wx.heap.size wx wy) : MO w k n s k' n' s' wy := ((mo_ms h).next hb).opened
/-- How two values stand to each other where what is blank takes the other's kind. -/
def cmpB (k n : Int) (s : ByteArray) (k' n' : Int) (s' : ByteArray) : Int := cmpV (bsK k k') (bsN k n) (bsS k s) (bsK k' k) (bsN k' n') (bsS k' s')
theorem blankAs_any (kk k n : Int) (s : ByteArray) (w : World) (h : ¬ kk = 4) :
    Calls Tryz.prog 111 #[.int .i64 kk, V k n s] w fun e w' => e = .returned (V (bsK k kk) (bsN k n) (bsS k s)) ∧ Below w.heap.size w w' := by
  unfold bsK bsN bsS
  by_cases h0 : k = 0
  · subst h0
    rw [if_pos rfl, if_pos rfl, if_pos rfl, if_neg h]
    exact blankAs_blank kk n s w
  · rw [if_neg h0, if_neg h0, if_neg h0]
    exact blankAs_other kk k n s w (beq_eq_false_iff_ne.2 h0)
set_option maxRecDepth 100000 in
set_option maxHeartbeats 8000000 in
theorem firstBad_a (n k' n' : Int) (s s' : ByteArray) (w : World) :
    Calls Tryz.prog 107 #[V 4 n s, V k' n' s'] w fun e w' => e = .returned (.tuple #[V 4 n s, .bool true]) ∧ Below w.heap.size w w' := by
  go_enter Tryz.func107, Tryz.ntmps107
  go_wp2_with fail
  exact bodyPost_ret (v := .tuple #[V 4 n s, .bool true]) (by simp [results, Tryz.results107, go_sem]) rfl ⟨rfl, by (repeat (first | exact Below.refl _ _ | assumption | (refine Below.setCell ?_ (by first | omega | (simp <;> omega)) _) | (refine Below.alloc ?_ (by first | omega | (simp <;> omega)) _) | (refine Below.drew ?_)))⟩
set_option maxRecDepth 100000 in
set_option maxHeartbeats 8000000 in
theorem firstBad_b (k n n' : Int) (s s' : ByteArray) (w : World) (h : (k == 4) = false) :
    Calls Tryz.prog 107 #[V k n s, V 4 n' s'] w fun e w' => e = .returned (.tuple #[V 4 n' s', .bool true]) ∧ Below w.heap.size w w' := by
  go_enter Tryz.func107, Tryz.ntmps107
  go_wp2_with fail
  exact bodyPost_ret (v := .tuple #[V 4 n' s', .bool true]) (by simp [results, Tryz.results107, go_sem]) rfl ⟨rfl, by (repeat (first | exact Below.refl _ _ | assumption | (refine Below.setCell ?_ (by first | omega | (simp <;> omega)) _) | (refine Below.alloc ?_ (by first | omega | (simp <;> omega)) _) | (refine Below.drew ?_)))⟩
set_option maxRecDepth 100000 in
set_option maxHeartbeats 8000000 in
theorem hold_a (op : Int) (n : Int) (s : ByteArray) (k' n' : Int) (s' : ByteArray) (w : World) :
    Calls Tryz.prog 81 #[.int .i64 op, V 4 n s, V k' n' s'] w fun e w' => e = .returned (V 4 n s) ∧ Below w.heap.size w w' := by
  have hS := MS.start w 4 n s k' n' s'
  go_enter Tryz.func81, Tryz.ntmps81
  go_wp2_with fail
  refine (firstBad_a _ _ _ _ _ _).mono ?_
  rintro e w1 ⟨rfl, q1⟩
  have hC := hat w1 (O3 4 n s) _ rfl
  replace hS := (hS.next q1).alloc (O3 4 n s)
  obtain ⟨⟨r0, r1, r2⟩, t0, t1, t2⟩ := cells3 hS.res
  obtain ⟨⟨x0, x1, x2⟩, y0, y1, y2⟩ := cells3 hC
  have hB := hS.below
  go_wp2_with fail
  exact bodyPost_ret (v := V 4 n s) (by simp [results, Tryz.results81, go_sem, r0, r1, r2]) rfl ⟨rfl, hB.trans (below3 (by omega))⟩
set_option maxRecDepth 100000 in
set_option maxHeartbeats 8000000 in
theorem hold_b (op : Int) (k n : Int) (s : ByteArray) (n' : Int) (s' : ByteArray) (w : World) (h4 : (k == 4) = false) :
    Calls Tryz.prog 81 #[.int .i64 op, V k n s, V 4 n' s'] w fun e w' => e = .returned (V 4 n' s') ∧ Below w.heap.size w w' := by
  have hS := MS.start w k n s 4 n' s'
  go_enter Tryz.func81, Tryz.ntmps81
  go_wp2_with fail
  refine (firstBad_b _ _ _ _ _ _ h4).mono ?_
  rintro e w1 ⟨rfl, q1⟩
  have hC := hat w1 (O3 4 n' s') _ rfl
  replace hS := (hS.next q1).alloc (O3 4 n' s')
  obtain ⟨⟨r0, r1, r2⟩, t0, t1, t2⟩ := cells3 hS.res
  obtain ⟨⟨x0, x1, x2⟩, y0, y1, y2⟩ := cells3 hC
  have hB := hS.below
  go_wp2_with fail
  exact bodyPost_ret (v := V 4 n' s') (by simp [results, Tryz.results81, go_sem, r0, r1, r2]) rfl ⟨rfl, hB.trans (below3 (by omega))⟩
set_option maxRecDepth 100000 in
set_option maxHeartbeats 8000000 in
theorem hold_1 (k n : Int) (s : ByteArray) (k' n' : Int) (s' : ByteArray) (w : World) (h4 : (k == 4) = false) (h4' : (k' == 4) = false) :
    Calls Tryz.prog 81 #[.int .i64 1, V k n s, V k' n' s'] w fun e w' => e = .returned (V 3 (b2n (cmpB k n s k' n' s' == 0)) nul) ∧ Below w.heap.size w w' := by
  have hS := MS.start w k n s k' n' s'
  have H4 : Hid (¬ k = 4) := beq_eq_false_iff_ne.1 h4
  have H4' : Hid (¬ k' = 4) := beq_eq_false_iff_ne.1 h4'
  obtain ⟨c, hc⟩ : ∃ c, cmpB k n s k' n' s' = c := ⟨_, rfl⟩
  have HC : Hid (cmpV (bsK k k') (bsN k n) (bsS k s) (bsK k' k) (bsN k' n') (bsS k' s') = c) := hc
  rw [hc]
  clear hc
  go_enter Tryz.func81, Tryz.ntmps81
  go_upto_region 4 with (go_at_call 107; refine (firstBad_no _ _ _ _ _ _ _ h4 h4').mono ?_; rintro e w1 ⟨rfl, h1⟩)
  replace hS := (hS.next h1).alloc (O3 0 0 nul)
  clear h1
  clear h4 h4'
  go_cut [9] (fun s9 wx => s9 = .int .i64 c ∧ MS w k n s k' n' s' wx)
  case first =>
    have h0d := (hS.next (drew_below _)).opened
    have ⟨q0, q1, q2, q3, q4, q5, q6⟩ := hS.opened
    go_region_held3 (fun wx => MO w k n s k' n' s' wx) (first | exact h0d | exact mo_below (by assumption) (by assumption)) (first | (go_at_call 111; refine (blankAs_any _ _ _ _ _ (by first | exact H4.out | exact H4'.out)).mono ?_; rintro e wa ⟨rfl, ha⟩) | (go_at_call 110; refine (compare_any _ _ _ _ _ _ _).mono ?_; rintro e wa ⟨rfl, ha⟩))
    all_goals
      go_wp2_with fail
      go_meet
      case rel => exact ⟨by rw [HC.out], mo_ms (by assumption)⟩
  case rest =>
  clear hS H4 H4' HC
  obtain ⟨rfl, hS⟩ := hcut
  go_wp2_with fail
  refine (truth_any _ _).mono ?_
  rintro e w1 ⟨rfl, q1⟩
  replace hS := hS.next q1
  obtain ⟨⟨r0, r1, r2⟩, t0, t1, t2⟩ := cells3 hS.res
  have hB := hS.below
  go_wp2_with fail
  exact bodyPost_ret (v := V 3 (b2n (c == 0)) nul) (by simp [results, Tryz.results81, go_sem, r0, r1, r2]) rfl ⟨rfl, hB.trans (below3 (by omega))⟩
set_option maxRecDepth 100000 in
set_option maxHeartbeats 8000000 in
theorem rtwo_a (op : Int) (h1 : 1 ≤ op) (h7 : op ≤ 7) (n : Int) (s : ByteArray) (k' n' : Int) (s' : ByteArray) (w : World) :
    Calls Tryz.prog 20 #[.int .i64 op, V 4 n s, V k' n' s'] w fun e w' => e = .returned (V 4 n s) ∧ Below w.heap.size w w' := by
  go_enter Tryz.func20, Tryz.ntmps20
  go_wp2_with fail
  exact bodyPost_ret (v := V 4 n s) (by simp [results, Tryz.results20, go_sem]) rfl ⟨rfl, by (repeat (first | exact Below.refl _ _ | assumption | (refine Below.setCell ?_ (by first | omega | (simp <;> omega)) _) | (refine Below.alloc ?_ (by first | omega | (simp <;> omega)) _) | (refine Below.drew ?_)))⟩
set_option maxRecDepth 100000 in
set_option maxHeartbeats 8000000 in
theorem rtwo_b (op : Int) (h1 : 1 ≤ op) (h7 : op ≤ 7) (k n : Int) (s : ByteArray) (n' : Int) (s' : ByteArray) (h4 : (k == 4) = false) (w : World) :
    Calls Tryz.prog 20 #[.int .i64 op, V k n s, V 4 n' s'] w fun e w' => e = .returned (V 4 n' s') ∧ Below w.heap.size w w' := by
  go_enter Tryz.func20, Tryz.ntmps20
  go_wp2_with fail
  exact bodyPost_ret (v := V 4 n' s') (by simp [results, Tryz.results20, go_sem]) rfl ⟨rfl, by (repeat (first | exact Below.refl _ _ | assumption | (refine Below.setCell ?_ (by first | omega | (simp <;> omega)) _) | (refine Below.alloc ?_ (by first | omega | (simp <;> omega)) _) | (refine Below.drew ?_)))⟩
set_option maxRecDepth 100000 in
set_option maxHeartbeats 8000000 in
theorem rtwo_1 (k n : Int) (s : ByteArray) (k' n' : Int) (s' : ByteArray) (w : World) (h4 : (k == 4) = false) (h4' : (k' == 4) = false) (hv : isVal k n s = true) (hv' : isVal k' n' s' = true) :
    Calls Tryz.prog 20 #[.int .i64 1, V k n s, V k' n' s'] w fun e w' => e = .returned (V 3 (b2n (cmpB k n s k' n' s' == 0)) nul) ∧ Below w.heap.size w w' := by
  have hS := MS.start w k n s k' n' s'
  have HV : Hid (isVal k n s = true) := hv
  have HV' : Hid (isVal k' n' s' = true) := hv'
  clear hv hv'
  obtain ⟨c, hc⟩ : ∃ c, cmpB k n s k' n' s' = c := ⟨_, rfl⟩
  have HC : Hid (cmpV (bsK k k') (bsN k n) (bsS k s) (bsK k' k) (bsN k' n') (bsS k' s') = c) := hc
  rw [hc]
  clear hc
  obtain ⟨⟨a0, a1, a2⟩, c0, c1, c2⟩ := cells3 hS.a
  obtain ⟨⟨b0, b1, b2⟩, d0, d1, d2⟩ := cells3 hS.b
  go_enter Tryz.func20, Tryz.ntmps20
  go_upto_region 17 with fail
  clear a0 a1 a2 c0 c1 c2 b0 b1 b2 d0 d1 d2
  go_cut [8] (fun s8 wx => s8 = .int .i64 c ∧ MS w k n s k' n' s' wx)
  case first =>
    have h0d := (hS.next (drew_below _)).opened
    have ⟨q0, q1, q2, q3, q4, q5, q6⟩ := hS.opened
    go_region_held3 (fun wx => MO w k n s k' n' s' wx) (first | exact h0d | exact mo_below (by assumption) (by assumption)) (first | (go_at_call 35; refine (beside_any _ _ _ _ _ _ _ (by first | exact HV.out | exact HV'.out) (by first | exact HV.out | exact HV'.out)).mono ?_; rintro e wa ⟨rfl, ha⟩) | (go_at_call 34; refine (rcompare_any _ _ _ _ _ _ _).mono ?_; rintro e wa ⟨rfl, ha⟩))
    all_goals
      go_wp2_with fail
      go_meet
      case rel => exact ⟨by rw [HC.out], mo_ms (by assumption)⟩
  case rest =>
  clear hS HV HV' HC
  obtain ⟨rfl, hS⟩ := hcut
  go_wp2_with fail
  refine (rtru_any _ _).mono ?_
  rintro e w1 ⟨rfl, q1⟩
  replace hS := hS.next q1
  obtain ⟨⟨r0, r1, r2⟩, t0, t1, t2⟩ := cells3 hS.res
  have hB := hS.below
  go_wp2_with fail
  exact bodyPost_ret (v := V 3 (b2n (c == 0)) nul) (by simp [results, Tryz.results20, go_sem, r0, r1, r2]) rfl ⟨rfl, hB.trans (below3 (by omega))⟩
set_option maxHeartbeats 2000000 in
theorem is_0a (n : Int) (s : ByteArray) (w : World) (h : (n == 0) = true) :
    Calls Tryz.prog 11 #[V 0 n s] w fun e w' => e = .returned (.bool s.toList.isEmpty) ∧ Below w.heap.size w w' := by
  go_enter Tryz.func11, Tryz.ntmps11
  go_wp2_with fail
  go_ret
  exact ⟨by simp, (Below.refl _ _).alloc (Nat.le_refl _) _⟩
set_option maxHeartbeats 2000000 in
theorem is_0b (n : Int) (s : ByteArray) (w : World) (h : (n == 0) = false) :
    Calls Tryz.prog 11 #[V 0 n s] w fun e w' => e = .returned (.bool false) ∧ Below w.heap.size w w' := by
  go_enter Tryz.func11, Tryz.ntmps11
  go_wp2_with fail
  go_ret
  exact ⟨rfl, (Below.refl _ _).alloc (Nat.le_refl _) _⟩
set_option maxHeartbeats 2000000 in
theorem is_1 (n : Int) (s : ByteArray) (w : World) :
    Calls Tryz.prog 11 #[V 1 n s] w fun e w' => e = .returned (.bool s.toList.isEmpty) ∧ Below w.heap.size w w' := by
  go_enter Tryz.func11, Tryz.ntmps11
  go_wp2_with fail
  go_ret
  exact ⟨by simp, (Below.refl _ _).alloc (Nat.le_refl _) _⟩
set_option maxHeartbeats 2000000 in
theorem is_2a (n : Int) (s : ByteArray) (w : World) (h : (n == 0) = true) :
    Calls Tryz.prog 11 #[V 2 n s] w fun e w' => e = .returned (.bool (decide ((s.size : Int) ≤ 200))) ∧ Below w.heap.size w w' := by
  go_enter Tryz.func11, Tryz.ntmps11
  go_wp2_with fail
  go_ret
  exact ⟨by simp, (Below.refl _ _).alloc (Nat.le_refl _) _⟩
set_option maxHeartbeats 2000000 in
theorem is_2b (n : Int) (s : ByteArray) (w : World) (h : (n == 0) = false) :
    Calls Tryz.prog 11 #[V 2 n s] w fun e w' => e = .returned (.bool false) ∧ Below w.heap.size w w' := by
  go_enter Tryz.func11, Tryz.ntmps11
  go_wp2_with fail
  go_ret
  exact ⟨rfl, (Below.refl _ _).alloc (Nat.le_refl _) _⟩
set_option maxHeartbeats 2000000 in
theorem is_3a (n : Int) (s : ByteArray) (w : World) (h : s.toList.isEmpty = false) :
    Calls Tryz.prog 11 #[V 3 n s] w fun e w' => e = .returned (.bool false) ∧ Below w.heap.size w w' := by
  go_enter Tryz.func11, Tryz.ntmps11
  go_wp2_with fail
  go_ret
  exact ⟨rfl, (Below.refl _ _).alloc (Nat.le_refl _) _⟩
set_option maxHeartbeats 2000000 in
theorem is_3b (n : Int) (s : ByteArray) (w : World) (h : s.toList.isEmpty = true) (h2 : (n == 0) = true) :
    Calls Tryz.prog 11 #[V 3 n s] w fun e w' => e = .returned (.bool true) ∧ Below w.heap.size w w' := by
  go_enter Tryz.func11, Tryz.ntmps11
  go_wp2_with fail
  go_ret
  exact ⟨rfl, (Below.refl _ _).alloc (Nat.le_refl _) _⟩
set_option maxHeartbeats 2000000 in
theorem is_3c (n : Int) (s : ByteArray) (w : World) (h : s.toList.isEmpty = true) (h2 : (n == 0) = false) :
    Calls Tryz.prog 11 #[V 3 n s] w fun e w' => e = .returned (.bool (n == 1)) ∧ Below w.heap.size w w' := by
  go_enter Tryz.func11, Tryz.ntmps11
  go_wp2_with fail
  go_ret
  exact ⟨by simp, (Below.refl _ _).alloc (Nat.le_refl _) _⟩
set_option maxHeartbeats 2000000 in
theorem is_4a (n : Int) (s : ByteArray) (w : World) (h : s.toList.isEmpty = false) :
    Calls Tryz.prog 11 #[V 4 n s] w fun e w' => e = .returned (.bool false) ∧ Below w.heap.size w w' := by
  go_enter Tryz.func11, Tryz.ntmps11
  go_wp2_with fail
  go_ret
  exact ⟨rfl, (Below.refl _ _).alloc (Nat.le_refl _) _⟩
set_option maxHeartbeats 2000000 in
theorem is_4b (n : Int) (s : ByteArray) (w : World) (h : s.toList.isEmpty = true) (h2 : ¬ 1 ≤ n) :
    Calls Tryz.prog 11 #[V 4 n s] w fun e w' => e = .returned (.bool false) ∧ Below w.heap.size w w' := by
  go_enter Tryz.func11, Tryz.ntmps11
  go_wp2_with fail
  go_ret
  exact ⟨rfl, (Below.refl _ _).alloc (Nat.le_refl _) _⟩
set_option maxHeartbeats 2000000 in
theorem is_4c (n : Int) (s : ByteArray) (w : World) (h : s.toList.isEmpty = true) (h2 : 1 ≤ n) :
    Calls Tryz.prog 11 #[V 4 n s] w fun e w' => e = .returned (.bool (decide (n ≤ 6))) ∧ Below w.heap.size w w' := by
  go_enter Tryz.func11, Tryz.ntmps11
  go_wp2_with fail
  go_ret
  exact ⟨by simp, (Below.refl _ _).alloc (Nat.le_refl _) _⟩
set_option maxHeartbeats 2000000 in
theorem is_no (k n : Int) (s : ByteArray) (w : World) (h0 : (k == 0) = false) (h1 : (k == 1) = false) (h2 : (k == 2) = false) (h3 : (k == 3) = false) (h4 : (k == 4) = false) :
    Calls Tryz.prog 11 #[V k n s] w fun e w' => e = .returned (.bool false) ∧ Below w.heap.size w w' := by
  go_enter Tryz.func11, Tryz.ntmps11
  go_wp2_with fail
  go_ret
  exact ⟨rfl, (Below.refl _ _).alloc (Nat.le_refl _) _⟩
theorem is_any (k n : Int) (s : ByteArray) (w : World) :
    Calls Tryz.prog 11 #[V k n s] w fun e w' => e = .returned (.bool (isVal k n s)) ∧ Below w.heap.size w w' := by
  unfold isVal
  by_cases h0 : k = 0
  · subst h0
    rw [if_pos rfl]
    cases h : (n == 0)
    · exact is_0b n s w h
    · exact is_0a n s w h
  by_cases h1 : k = 1
  · subst h1
    rw [if_neg h0, if_pos rfl]
    exact is_1 n s w
  by_cases h2 : k = 2
  · subst h2
    rw [if_neg h0, if_neg h1, if_pos rfl]
    cases h : (n == 0)
    · exact is_2b n s w h
    · exact is_2a n s w h
  by_cases h3 : k = 3
  · subst h3
    rw [if_neg h0, if_neg h1, if_neg h2, if_pos rfl]
    cases h : s.toList.isEmpty
    · rw [Bool.and_false]; exact is_3a n s w h
    · cases h2 : (n == 0)
      · rw [Bool.false_or, Bool.and_true]; exact is_3c n s w h h2
      · exact is_3b n s w h h2
  by_cases h4 : k = 4
  · subst h4
    rw [if_neg h0, if_neg h1, if_neg h2, if_neg h3, if_pos rfl]
    cases h : s.toList.isEmpty
    · rw [Bool.and_false]; exact is_4a n s w h
    · by_cases h2 : 1 ≤ n
      · rw [decide_eq_true h2, Bool.true_and, Bool.and_true]; exact is_4c n s w h h2
      · rw [decide_eq_false h2, Bool.false_and, Bool.false_and]; exact is_4b n s w h h2
  rw [if_neg h0, if_neg h1, if_neg h2, if_neg h3, if_neg h4]
  exact is_no k n s w (beq_eq_false_iff_ne.2 h0) (beq_eq_false_iff_ne.2 h1) (beq_eq_false_iff_ne.2 h2) (beq_eq_false_iff_ne.2 h3) (beq_eq_false_iff_ne.2 h4)
end Go.Proofs.YtoaejcppfmjhdaaGreatDoor.vv
