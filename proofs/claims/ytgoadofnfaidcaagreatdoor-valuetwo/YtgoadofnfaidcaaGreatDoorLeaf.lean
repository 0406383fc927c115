/- The small makers and tests of values, and how values are held against each other: what each returns, for every value. Conditions: none, but where a theorem says so. -/
import Derived.Test.YtgoadofnfaidcaaGreatDoorRows
import Derived.WalkKit
import Derived.ProofKit
import Derived.WalkSpells
import Derived.WalkLawsBesides
import Derived.Below
import Derived.Lib.Bytealg
import Derived.Lib.Walk
namespace Go.Proofs.YtgoadofnfaidcaaGreatDoor
open Go.RowKit
abbrev nul : ByteArray := ⟨#[]⟩
/-- A value of package api, as the model has it. -/
abbrev V (k n : Int) (s : ByteArray) : Value := .agg #[.int .i64 k, .int .i64 n, .string s]
abbrev ptr (b : Nat) : Value := .pointer (some ⟨b, 0, none⟩)
theorem bcell {W w1 : World} (hb : Below W.heap.size W w1) : (∀ b o, b < W.heap.size → w1.cell? ⟨b, o, none⟩ = W.cell? ⟨b, o, none⟩) ∧ (∀ b o, b < W.heap.size → w1.frozen? ⟨b, o, none⟩ = W.frozen? ⟨b, o, none⟩) :=
  ⟨fun b o h => hb.cell (p := ⟨b, o, none⟩) h, fun b o h => hb.frozen (p := ⟨b, o, none⟩) h⟩
theorem bnext {B : Nat} {w x y : World} (h : Below B w x) (h2 : Below x.heap.size x y) (hB : B ≤ x.heap.size) : Below B w y := h.trans (h2.mono hB)
theorem bnew {B : Nat} {w x y : World} (h : Below B w x) (h2 : Below x.heap.size x y) (hB : B ≤ x.heap.size) (o : Obj) : Below B w (y.alloc o) := (bnext h h2 hB).alloc (Nat.le_trans hB h2.size) _
/-- A value lies in a block of its own. -/
structure Has (w : World) (b : Nat) (k n : Int) (s : ByteArray) : Prop where
  lt : b < w.heap.size
  c0 : w.cell? ⟨b, 0, none⟩ = some (.int .i64 k)
  c1 : w.cell? ⟨b, 1, none⟩ = some (.int .i64 n)
  c2 : w.cell? ⟨b, 2, none⟩ = some (.string s)
theorem Has.below {w w' : World} {b : Nat} {k n : Int} {s : ByteArray} (h : Has w b k n s) (hb : Below w.heap.size w w') : Has w' b k n s :=
  ⟨Nat.lt_of_lt_of_le h.lt hb.size, by rw [hb.cell h.lt]; exact h.c0, by rw [hb.cell h.lt]; exact h.c1, by rw [hb.cell h.lt]; exact h.c2⟩
theorem Has.alloc {w : World} {b : Nat} {k n : Int} {s : ByteArray} (h : Has w b k n s) (o : Obj) : Has (w.alloc o) b k n s :=
  h.below ((Below.refl _ _).alloc (Nat.le_refl _) _)
theorem Has.drew {w : World} {b : Nat} {k n : Int} {s : ByteArray} (h : Has w b k n s) : Has w.drew b k n s := ⟨h.lt, h.c0, h.c1, h.c2⟩
theorem Has.new (w : World) (k n : Int) (s : ByteArray) (t : TypeId) : Has (w.alloc (.cells #[.int .i64 k, .int .i64 n, .string s] t)) w.heap.size k n s :=
  ⟨by simp, by simp, by simp, by simp⟩
/-! The makers. -/
/-- The number of a truth. -/
def b2n (t : Bool) : Int := if t = true then 1 else 0
theorem rnum_any (n : Int) (w : World) :
    Calls Tryz.prog 16 #[.int .i64 n] w fun e w' => e = .returned (V 1 n nul) ∧ Below w.heap.size w w' := by
  go_enter Tryz.func16, Tryz.ntmps16
  go_wp2
  exact bodyPost_ret (v := V 1 n nul) (by simp [results, Tryz.results16, go_sem]) rfl ⟨rfl, (Below.refl _ _).alloc (Nat.le_refl _) _⟩
theorem rtxt_any (s : ByteArray) (w : World) :
    Calls Tryz.prog 39 #[.string s] w fun e w' => e = .returned (V 2 0 s) ∧ Below w.heap.size w w' := by
  go_enter Tryz.func39, Tryz.ntmps39
  go_wp2
  exact bodyPost_ret (v := V 2 0 s) (by simp [results, Tryz.results39, go_sem]) rfl ⟨rfl, (Below.refl _ _).alloc (Nat.le_refl _) _⟩
theorem rtru_any (t : Bool) (w : World) :
    Calls Tryz.prog 37 #[.bool t] w fun e w' => e = .returned (V 3 (b2n t) nul) ∧ Below w.heap.size w w' := by
  cases t
  · go_enter Tryz.func37, Tryz.ntmps37
    go_wp2
    exact bodyPost_ret (v := V 3 0 nul) (by simp [results, Tryz.results37, go_sem]) rfl ⟨rfl, (Below.refl _ _).alloc (Nat.le_refl _) _⟩
  · go_enter Tryz.func37, Tryz.ntmps37
    go_wp2
    exact bodyPost_ret (v := V 3 1 nul) (by simp [results, Tryz.results37, go_sem]) rfl ⟨rfl, (Below.refl _ _).alloc (Nat.le_refl _) _⟩
theorem truth_any (t : Bool) (w : World) :
    Calls Tryz.prog 30 #[.bool t] w fun e w' => e = .returned (V 3 (b2n t) nul) ∧ Below w.heap.size w w' := by
  cases t
  · go_enter Tryz.func30, Tryz.ntmps30
    go_wp2
    exact bodyPost_ret (v := V 3 0 nul) (by simp [results, Tryz.results30, go_sem]) rfl ⟨rfl, (Below.refl _ _).alloc (Nat.le_refl _) _⟩
  · go_enter Tryz.func30, Tryz.ntmps30
    go_wp2
    exact bodyPost_ret (v := V 3 1 nul) (by simp [results, Tryz.results30, go_sem]) rfl ⟨rfl, (Below.refl _ _).alloc (Nat.le_refl _) _⟩
/-! Numbers and texts held against each other. -/
def cmpI (a b : Int) : Int := if a < b then -1 else if b < a then 1 else 0
abbrev cmpS (a b : ByteArray) : Int := Lib.compareBytes a.data.toList b.data.toList
theorem cmpInt_any (a b : Int) (w : World) :
    Calls Tryz.prog 41 #[.int .i64 a, .int .i64 b] w fun e w' => e = .returned (.int .i64 (cmpI a b)) ∧ w' = w := by
  by_cases h : a < b
  · have e1 : cmpI a b = -1 := by unfold cmpI; rw [if_pos h]
    rw [e1]
    go_enter Tryz.func41, Tryz.ntmps41
    go_wp2
    go_ret
    exact ⟨rfl, rfl⟩
  · by_cases h2 : b < a
    · have e1 : cmpI a b = 1 := by unfold cmpI; rw [if_neg h, if_pos h2]
      rw [e1]
      go_enter Tryz.func41, Tryz.ntmps41
      go_wp2
      go_ret
      exact ⟨rfl, rfl⟩
    · have e1 : cmpI a b = 0 := by unfold cmpI; rw [if_neg h, if_neg h2]
      rw [e1]
      go_enter Tryz.func41, Tryz.ntmps41
      go_wp2
      go_ret
      exact ⟨rfl, rfl⟩
set_option maxRecDepth 100000 in
theorem cmpString_any (a b : ByteArray) (w : World) :
    Calls Tryz.prog 67 #[.string a, .string b] w fun e w' => e = .returned (.int .i64 (cmpS a b)) ∧ w' = w := by
  go_enter Tryz.func67, Tryz.ntmps67
  go_wp2
  rw [run_callFunc_extern Tryz.func87 (by kernel_rfl) (by kernel_rfl) (by kernel_rfl) (e := Extern.BytealgCompare.compare) (by kernel_rfl), Lib.run_compareString]
  simp only [Result.andThen]
  rw [Oper.upon_value]
  go_wp2
  go_ret
  exact ⟨rfl, rfl⟩
theorem stringsCompare_any (a b : ByteArray) (w : World) :
    Calls Tryz.prog 42 #[.string a, .string b] w fun e w' => e = .returned (.int .i64 (cmpS a b)) ∧ w' = w := by
  go_enter Tryz.func42, Tryz.ntmps42
  go_wp2_with (go_at_call 67; refine (cmpString_any _ _ _).mono ?_; rintro e w' ⟨rfl, rfl⟩)
  go_ret
  exact ⟨rfl, rfl⟩
/-- How two values stand to each other. -/
def cmpV (k n : Int) (s : ByteArray) (k' n' : Int) (s' : ByteArray) : Int :=
  if cmpI k k' ≠ 0 then cmpI k k' else if k = 2 then cmpS s s' else cmpI n n'
set_option maxHeartbeats 400000 in
theorem compare_any (k n k' n' : Int) (s s' : ByteArray) (w : World) :
    Calls Tryz.prog 17 #[V k n s, V k' n' s'] w fun e w' => e = .returned (.int .i64 (cmpV k n s k' n' s')) ∧ Below w.heap.size w w' := by
  by_cases h : cmpI k k' = 0
  · have e0 : (cmpI k k' != 0) = false := by simp [h]
    by_cases h2 : k = 2
    · have e1 : cmpV k n s k' n' s' = cmpS s s' := by unfold cmpV; rw [if_neg (by simp [h]), if_pos h2]
      rw [e1]
      have e2 : (k == 2) = true := beq_iff_eq.2 h2
      clear h h2 e1
      go_enter Tryz.func17, Tryz.ntmps17
      go_wp2_with (first | (go_at_call 41; refine (cmpInt_any _ _ _).mono ?_; rintro e w' ⟨rfl, rfl⟩) | (go_at_call 42; refine (stringsCompare_any _ _ _).mono ?_; rintro e w' ⟨rfl, rfl⟩))
      go_ret
      exact ⟨rfl, ((Below.refl _ _).alloc (Nat.le_refl _) _).alloc (by simp) _⟩
    · have e1 : cmpV k n s k' n' s' = cmpI n n' := by unfold cmpV; rw [if_neg (by simp [h]), if_neg h2]
      rw [e1]
      have e2 : (k == 2) = false := beq_eq_false_iff_ne.2 h2
      clear h h2 e1
      go_enter Tryz.func17, Tryz.ntmps17
      go_wp2_with (first | (go_at_call 41; refine (cmpInt_any _ _ _).mono ?_; rintro e w' ⟨rfl, rfl⟩) | (go_at_call 42; refine (stringsCompare_any _ _ _).mono ?_; rintro e w' ⟨rfl, rfl⟩))
      go_ret
      exact ⟨rfl, ((Below.refl _ _).alloc (Nat.le_refl _) _).alloc (by simp) _⟩
  · have e1 : cmpV k n s k' n' s' = cmpI k k' := by unfold cmpV; rw [if_pos h]
    rw [e1]
    have e0 : (cmpI k k' != 0) = true := bne_iff_ne.2 h
    clear h e1
    go_enter Tryz.func17, Tryz.ntmps17
    go_wp2_with (first | (go_at_call 41; refine (cmpInt_any _ _ _).mono ?_; rintro e w' ⟨rfl, rfl⟩) | (go_at_call 42; refine (stringsCompare_any _ _ _).mono ?_; rintro e w' ⟨rfl, rfl⟩))
    go_ret
    exact ⟨rfl, ((Below.refl _ _).alloc (Nat.le_refl _) _).alloc (by simp) _⟩
end Go.Proofs.YtgoadofnfaidcaaGreatDoor
