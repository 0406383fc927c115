/- The small functions of package addr: isCell, Check, sign, what takes a dollar sign, Less. Conditions: none, but where a theorem says so. -/
import Derived.Test.YtmaiabkggpifgaaDoorRows
import Derived.WalkKit
import Derived.ProofKit
import Derived.WalkSpells
import Derived.WalkLawsBesides
import Derived.Below
import Derived.Lib.Walk
import Derived.Deep.DeepCutAuto
namespace Go.Proofs.YtmaiabkggpifgaaDoor.adr
open Go.RowKit
abbrev nul : ByteArray := ⟨#[]⟩
/-- A cell of package api, and a ref, as the model has them. -/
abbrev C (c r : Int) : Value := .agg #[.int .i64 c, .int .i64 r]
abbrev R (c r : Int) (fc fr : Bool) : Value := .agg #[.int .i64 c, .int .i64 r, .bool fc, .bool fr]
abbrev ptr (b : Nat) : Value := .pointer (some ⟨b, 0, none⟩)
theorem bnext {B : Nat} {w x y : World} (h : Below B w x) (h2 : Below x.heap.size x y) (hB : B ≤ x.heap.size) : Below B w y := h.trans (h2.mono hB)
/-- Is it a cell? -/
def isC (c r : Int) : Bool := decide (1 ≤ c) && decide (c ≤ 26) && decide (1 ≤ r) && decide (r ≤ 99)
theorem isC_iff {c r : Int} : isC c r = true ↔ (1 ≤ c ∧ c ≤ 26) ∧ 1 ≤ r ∧ r ≤ 99 := by
  unfold isC
  simp only [Bool.and_eq_true, decide_eq_true_eq]
  omega
set_option maxHeartbeats 1000000 in
theorem isCell_any (c r : Int) (w : World) :
    Calls Tryd.prog 31 #[C c r] w fun e w' => e = .returned (.bool (isC c r)) ∧ Below w.heap.size w w' := by
  by_cases h1 : 1 ≤ c
  · by_cases h2 : c ≤ 26
    · by_cases h3 : 1 ≤ r
      · have e1 : isC c r = decide (r ≤ 99) := by unfold isC; simp [h1, h2, h3]
        rw [e1]
        clear e1
        go_enter Tryd.func31, Tryd.ntmps31
        go_wp2
        go_ret
        exact ⟨by simp, (Below.refl _ _).alloc (Nat.le_refl _) _⟩
      · have e1 : isC c r = false := by unfold isC; simp [h3]
        rw [e1]
        clear e1
        go_enter Tryd.func31, Tryd.ntmps31
        go_wp2
        go_ret
        exact ⟨rfl, (Below.refl _ _).alloc (Nat.le_refl _) _⟩
    · have e1 : isC c r = false := by unfold isC; simp [h2]
      rw [e1]
      clear e1
      go_enter Tryd.func31, Tryd.ntmps31
      go_wp2
      go_ret
      exact ⟨rfl, (Below.refl _ _).alloc (Nat.le_refl _) _⟩
  · have e1 : isC c r = false := by unfold isC; simp [h1]
    rw [e1]
    clear e1
    go_enter Tryd.func31, Tryd.ntmps31
    go_wp2
    go_ret
    exact ⟨rfl, (Below.refl _ _).alloc (Nat.le_refl _) _⟩
/-- What Check answers. -/
def ckc (t : Bool) : Value := if t = true then .nilIface else .iface 59 (.int .i64 1)
theorem check_any (c r : Int) (w : World) :
    Calls Tryd.prog 14 #[C c r] w fun e w' => e = .returned (ckc (isC c r)) ∧ Below w.heap.size w w' := by
  cases h : isC c r
  · have HH : Hid (isC c r = false) := h
    clear h
    go_enter Tryd.func14, Tryd.ntmps14
    go_wp2_with fail
    refine (isCell_any _ _ _).mono ?_
    rintro e w1 ⟨rfl, b1⟩
    rw [HH.out]
    go_wp2_with fail
    go_ret
    exact ⟨rfl, bnext ((Below.refl _ _).alloc (Nat.le_refl _) _) b1 (by simp)⟩
  · have HH : Hid (isC c r = true) := h
    clear h
    go_enter Tryd.func14, Tryd.ntmps14
    go_wp2_with fail
    refine (isCell_any _ _ _).mono ?_
    rintro e w1 ⟨rfl, b1⟩
    rw [HH.out]
    go_wp2_with fail
    go_ret
    exact ⟨rfl, bnext ((Below.refl _ _).alloc (Nat.le_refl _) _) b1 (by simp)⟩
/-- The sign of what is fixed. -/
def sg (t : Bool) : ByteArray := if t = true then ⟨#[36]⟩ else nul
theorem sign_any (t : Bool) (w : World) :
    Calls Tryd.prog 29 #[.bool t] w fun e w' => e = .returned (.string (sg t)) ∧ w' = w := by
  cases t
  · go_enter Tryd.func29, Tryd.ntmps29
    go_wp2
    go_ret
    exact ⟨rfl, rfl⟩
  · go_enter Tryd.func29, Tryd.ntmps29
    go_wp2
    go_ret
    exact ⟨rfl, rfl⟩
/-- Is there a dollar sign at a place? -/
def isD (s : ByteArray) (k : Nat) : Bool := if h : k < s.size then s[k].toNat == 36 else false
theorem isD_no {s : ByteArray} {k : Nat} (h : ¬ k < s.size) : isD s k = false := by unfold isD; rw [dif_neg h]
theorem isD_at {s : ByteArray} {k : Nat} (h : k < s.size) : isD s k = (s[k].toNat == 36) := by unfold isD; rw [dif_pos h]
def b2N (t : Bool) : Nat := if t = true then 1 else 0
/-- The block of the place where one reads, and that of the text. -/
structure At (w : World) (ba bs : Nat) (k : Nat) (s : ByteArray) : Prop where
  a : w.heap[ba]? = some (.cells #[.int .i64 k] 3 (0, 0))
  t : w.heap[bs]? = some (.cells #[.string s] 9 (0, 0))
set_option maxHeartbeats 1000000 in
theorem fixed_any (ba bs k : Nat) (s : ByteArray) (w : World) (hk : k ≤ s.size) (hs : s.size ≤ 140737488355328) (h : At w ba bs k s) :
    Calls Tryd.prog 39 #[ptr ba, ptr bs] w fun e w' => e = .returned (.bool (isD s k)) ∧ At w' ba bs (k + b2N (isD s k)) s ∧ (∀ B, B ≤ ba → Below B w w') ∧ (isD s k = true → k < s.size) ∧ w'.heap.size = w.heap.size ∧ (∀ b, b ≠ ba → w'.heap[b]? = w.heap[b]?) := by
  have ca := cell_of_one h.a
  have ct := cell_of_one h.t
  have fa := free_of_one h.a
  by_cases hlt : k < s.size
  · have hq := isD_at hlt
    cases hd : isD s k
    · rw [hd] at hq
      have h1 : (((s[k].toNat : Nat) : Int) != 36) = true := by
        have := hq.symm
        rw [beq_eq_false_iff_ne] at this
        rw [bne_iff_ne]; omega
      have h0 : ((k : Int) == (s.size : Int)) = false := by rw [beq_eq_false_iff_ne]; omega
      have HD : Hid (isD s k = false) := hd
      clear hq hd
      go_enter Tryd.func39, Tryd.ntmps39
      go_wp2_with fail
      go_ret
      exact ⟨rfl, h, fun B _ => Below.refl _ _, fun _ => hlt, rfl, fun _ _ => rfl⟩
    · rw [hd] at hq
      have h1 : (((s[k].toNat : Nat) : Int) != 36) = false := by
        have := beq_iff_eq.1 hq.symm
        rw [bne_eq_false_iff_eq]; omega
      have h0 : ((k : Int) == (s.size : Int)) = false := by rw [beq_eq_false_iff_ne]; omega
      have hne : bs ≠ ba := by
        intro q
        have hh := h.t
        rw [q, h.a] at hh
        simp at hh
      clear hq hd
      go_enter Tryd.func39, Tryd.ntmps39
      go_wp2_with fail
      go_ret
      refine ⟨rfl, ⟨?_, ?_⟩, fun B hB => (Below.refl _ _).setCell hB _, fun _ => hlt, ?_, fun b hb => Below.heap_setCell _ _ _ _ hb⟩
      · exact one_setCell h.a
      · rw [Below.heap_setCell _ _ _ _ hne]; exact h.t
      · simp
  · have hkn : k = s.size := by omega
    subst hkn
    have HD := isD_no (s := s) hlt
    have HD' : Hid (isD s s.size = false) := HD
    clear HD
    go_enter Tryd.func39, Tryd.ntmps39
    go_wp2_with fail
    go_ret
    refine ⟨?_, ?_, fun B _ => Below.refl _ _, fun q => absurd q (by rw [HD'.out]; simp), rfl, fun _ _ => rfl⟩
    · rw [HD'.out]; rfl
    · rw [HD'.out]; exact h
end Go.Proofs.YtmaiabkggpifgaaDoor.adr
