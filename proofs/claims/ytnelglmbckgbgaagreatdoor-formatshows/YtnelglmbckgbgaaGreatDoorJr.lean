
/- Which values are some by the reference, and how it shows one. Conditions: as each theorem says. -/
import Derived.Test.YtnelglmbckgbgaaGreatDoorDig
import Derived.Test.YtnelglmbckgbgaaGreatDoorFit
import Derived.Test.YtnelglmbckgbgaaGreatDoorConv
import Derived.Test.YtnelglmbckgbgaaGreatDoorInt
import Derived.Test.YtnelglmbckgbgaaGreatDoorIntAdd
import Derived.Test.YtnelglmbckgbgaaGreatDoorNeg
import Derived.Deep.DeepCutAuto
import Derived.Lib.IndexBytes
import Derived.Test.YtnelglmbckgbgaaGreatDoorHold
import Derived.Test.YtnelglmbckgbgaaGreatDoorNewInt

/- Plain facts: a text that is a whole number by the reference is one by the program, and the other way round. Nothing is walked here. -/
namespace Go.Proofs.YtnelglmbckgbgaaGreatDoor
open Go.Lib
/-- What stands behind a sign. -/
def behind (l : List UInt8) : List UInt8 := if l.head? = some 45 then l.tail else l
/-- The whole number that a text is by the reference. -/
def wholeL (l : List UInt8) : Option Int :=
  if behind l = [] ∨ ((behind l).head? = some 48 ∧ l ≠ [48]) then none
  else if (behind l).all dig = false then none
  else if fitI (decide (l.head? = some 45)) (dv (behind l)) = true then some (if l.head? = some 45 then -(dv (behind l) : Int) else (dv (behind l) : Int)) else none
theorem fit_iff {neg : Bool} {x : Nat} : fitI neg x = true ↔ x < 9223372036854775808 ∨ (neg = true ∧ x = 9223372036854775808) := by
  unfold fitI
  simp
theorem whole_itoa (v : Int) (h0 : -9223372036854775808 ≤ v) (h1 : v ≤ 9223372036854775807) : wholeL (itoa v) = some v := by
  by_cases c : v < 0
  · obtain ⟨u, rfl⟩ : ∃ u : Nat, v = -(u : Int) := ⟨v.natAbs, by omega⟩
    rw [itoa_neg u (by omega)]
    obtain ⟨d1, d2, d3, d4⟩ := dv_dec u
    have hb : behind (45 :: decDigits u) = decDigits u := by simp [behind]
    unfold wholeL
    rw [hb, if_neg, if_neg, if_pos]
    · simp [d1]
    · rw [fit_iff, d1]
      simp
      omega
    · rw [d2]; simp
    · rintro (e | ⟨e, _⟩)
      · exact d3 e
      · have := d4 e
        rw [this] at d1
        have : u = 0 := by rw [← d1]; rfl
        omega
  · obtain ⟨u, rfl⟩ : ∃ u : Nat, v = (u : Int) := ⟨v.toNat, by omega⟩
    rw [itoa_nonneg u]
    obtain ⟨d1, d2, d3, d4⟩ := dv_dec u
    obtain ⟨q, r, e, q1, q2⟩ := dec_head u
    have hh : (decDigits u).head? ≠ some 45 := by
      rw [e, List.head?_cons]
      intro k
      injection k with k
      rw [k] at q1
      exact absurd q1 (by decide)
    have hb : behind (decDigits u) = decDigits u := by unfold behind; rw [if_neg hh]
    unfold wholeL
    rw [hb, if_neg, if_neg, if_pos]
    · rw [if_neg hh, d1]
    · rw [fit_iff, d1]
      left
      omega
    · rw [d2]; simp
    · rintro (e | ⟨e, e2⟩)
      · exact d3 e
      · exact e2 (d4 e)
theorem whole_some {l : List UInt8} {v : Int} (h : wholeL l = some v) : itoa v = l ∧ -9223372036854775808 ≤ v ∧ v ≤ 9223372036854775807 := by
  unfold wholeL at h
  by_cases b1 : behind l = [] ∨ ((behind l).head? = some 48 ∧ l ≠ [48])
  · rw [if_pos b1] at h; cases h
  rw [if_neg b1] at h
  by_cases b2 : (behind l).all dig = false
  · rw [if_pos b2] at h; cases h
  rw [if_neg b2] at h
  rw [Bool.not_eq_false] at b2
  by_cases b3 : fitI (decide (l.head? = some 45)) (dv (behind l)) = true
  · rw [if_pos b3] at h
    injection h with h
    rw [fit_iff] at b3
    have hne : behind l ≠ [] := fun e => b1 (Or.inl e)
    by_cases hm : l.head? = some 45
    · rw [if_pos hm] at h
      have hl : l = 45 :: behind l := by
        unfold behind
        rw [if_pos hm]
        cases l with
        | nil => cases hm
        | cons a r =>
          rw [List.head?_cons] at hm
          injection hm with hm
          rw [hm]; rfl
      have hcn : canon (behind l) := ⟨b2, hne, fun e => by
        exfalso
        apply b1
        refine Or.inr ⟨e, ?_⟩
        intro q
        rw [q] at hm
        cases hm⟩
      have hn48 : behind l ≠ [48] := by
        intro e
        apply b1
        refine Or.inr ⟨by rw [e]; rfl, ?_⟩
        intro q
        rw [q] at hm
        cases hm
      have hp := dv_pos _ hcn hn48
      subst h
      rw [itoa_neg _ (by omega), dec_dv _ hcn, ← hl]
      refine ⟨rfl, ?_, ?_⟩ <;> omega
    · rw [if_neg hm] at h
      have hbl : behind l = l := by unfold behind; rw [if_neg hm]
      rw [hbl] at h b1 b2 b3 hne
      have hcn : canon l := ⟨b2, hne, fun e => by
        apply Classical.byContradiction
        intro q
        exact b1 (Or.inr ⟨e, q⟩)⟩
      subst h
      rw [itoa_nonneg, dec_dv _ hcn]
      refine ⟨rfl, ?_, ?_⟩
      · omega
      · rcases b3 with q | ⟨q, _⟩
        · omega
        · simp at q; exact absurd q hm
  · rw [if_neg b3] at h; cases h
/-- BOTH SAY THE SAME. -/
theorem whole_num (s : ByteArray) : wholeL s.data.toList = numOf s := by
  cases h : wholeL s.data.toList with
  | some v =>
    obtain ⟨h1, h2, h3⟩ := whole_some h
    have h4 := atoi_itoa v h2 h3
    rw [h1] at h4
    unfold numOf
    rw [h4]
    simp [h1]
  | none =>
    cases h2 : numOf s with
    | none => rfl
    | some v =>
      obtain ⟨h3, h4⟩ := numOf_some h2
      obtain ⟨b1, b2⟩ := atoi_bd h3
      have := whole_itoa v b1 b2
      rw [h4, h] at this
      cases this
end Go.Proofs.YtnelglmbckgbgaaGreatDoor

/- IsInt64: whether a whole number has 64 bits. Conditions: as each theorem says. -/
namespace Go.Proofs.YtnelglmbckgbgaaGreatDoor
open Go.RowKit
/-- All lower bits noughts: a power of two. -/
theorem low_zero {x : Nat} : ∀ t, (∀ i, i < t → x / 2 ^ i % 2 = 0) → x % 2 ^ t = 0
  | 0, _ => by simp [Nat.mod_one]
  | t + 1, h => by
    have ih := low_zero t (fun i hi => h i (by omega))
    have h2 := h t (by omega)
    rw [Nat.pow_succ, Nat.mod_mul, ih, h2]
    simp
end Go.Proofs.YtnelglmbckgbgaaGreatDoor

/- Products and sums of whole numbers of any size. Conditions: as each theorem says. -/
namespace Go.Proofs.YtnelglmbckgbgaaGreatDoor
open Go.RowKit
abbrev Four (bx b2 : Nat) (xn yn : Bool) (vx vy : Value) (w : World) : Prop := w.cell? ⟨bx, 0, none⟩ = some (.bool xn) ∧ w.cell? ⟨bx, 1, none⟩ = some vx ∧ w.cell? ⟨b2, 0, none⟩ = some (.bool yn) ∧ w.cell? ⟨b2, 1, none⟩ = some vy
end Go.Proofs.YtnelglmbckgbgaaGreatDoor

/- Whole, as the reference reads a number of its digits: what it returns, for every text. Conditions: the text has at most 2^47 bytes. -/
namespace Go.Proofs.YtnelglmbckgbgaaGreatDoor
open Go.RowKit
theorem take_snoc (t : ByteArray) (k : Nat) (h : k < t.size) : t.data.toList.take (k + 1) = t.data.toList.take k ++ [t[k]] := by
  rw [List.take_succ_eq_append_getElem (by simpa using h)]; rfl
theorem byte_lt (c : UInt8) : c.toNat < 256 := UInt8.toNat_lt c
/-- What the text behind the sign says of the answer. -/
def wAns (neg : Bool) (x : Nat) : Int := if fitI neg x = true then (if neg = true then -(x : Int) else (x : Int)) else 0
def wRes (neg : Bool) (l : List UInt8) : Int := if l.all dig = true then wAns neg (dv l) else 0
def wOk (neg : Bool) (l : List UInt8) : Bool := l.all dig && fitI neg (dv l)
theorem w_no {neg : Bool} {t : ByteArray} {k : Nat} (hlt : k < t.size) (h : dig t[k] = false) : wRes neg t.data.toList = 0 ∧ wOk neg t.data.toList = false := by
  have : t.data.toList.all dig = false := by
    rw [List.all_eq_false]
    exact ⟨t[k], Array.mem_toList_iff.2 (Array.getElem_mem (xs := t.data) hlt), by simp [h]⟩
  unfold wRes wOk
  rw [this]
  exact ⟨if_neg (by simp), by simp⟩
theorem size_pos {s : ByteArray} (h : s.toList.isEmpty = false) : 0 < s.size := by
  rcases Nat.eq_zero_or_pos s.size with q | q
  · have : s.data.toList = [] := List.length_eq_zero_iff.1 (by rw [Array.length_toList]; exact q)
    rw [ByteArray.toList_eq, this] at h
    cases h
  · exact q
theorem head_byte {s : ByteArray} (hp : 0 < s.size) : s.data.toList.head? = some (s[0]'hp) := by
  rw [List.head?_eq_getElem?, List.getElem?_eq_getElem (by rw [Array.length_toList]; exact hp)]
  rfl
theorem byte_beq {c : UInt8} {n : Nat} (hn : n < 256) : (((c.toNat : Nat) : Int) == (n : Int)) = decide (c = UInt8.ofNat n) := by
  rw [Bool.eq_iff_iff, beq_iff_eq, decide_eq_true_iff]
  constructor
  · intro e
    apply UInt8.toNat_inj.1
    rw [UInt8.toNat_ofNat']
    omega
  · rintro rfl
    rw [UInt8.toNat_ofNat']
    omega
end Go.Proofs.YtnelglmbckgbgaaGreatDoor

/- Read: the value that any text is read as; and that it is one, and is shown as that text. Conditions: the package variables hold what the program's text lays ('Env'). -/
namespace Go.Proofs.YtnelglmbckgbgaaGreatDoor
open Go.RowKit
/-- A block of the call's own that a value may be written into. -/
structure Cell3 (w0 : World) (b : Nat) (w : World) : Prop where
  mine : Mine w b
  has : Has w b 0 0 nul
  below : Below w0.heap.size w0 w
  le : w0.heap.size ≤ b
theorem Cell3.next {w0 : World} {b : Nat} {w w' : World} (h : Cell3 w0 b w) (hb : Below w.heap.size w w') : Cell3 w0 b w' :=
  ⟨h.mine.below hb, h.has.below hb, bnext h.below hb h.below.size, h.le⟩
theorem Cell3.start (w : World) (t : TypeId) : Cell3 w w.heap.size (w.alloc (.cells #[.int .i64 0, .int .i64 0, .string nul] t)) :=
  ⟨Mine.new _ _ _, Has.new _ _ _ _ _, (Below.refl _ _).alloc (Nat.le_refl _) _, Nat.le_refl _⟩
/-- What a text is read as. -/
def rd (s : ByteArray) : Int × Int × ByteArray :=
  if s.toList.isEmpty = true then (0, 0, nul) else if (200 : Int) < (s.size : Int) then (4, 2, nul) else
  match numOf s with
  | some v => (1, v, nul)
  | none => if (s.toList == [84, 82, 85, 69]) = true then (3, 1, nul) else if (s.toList == [70, 65, 76, 83, 69]) = true then (3, 0, nul) else if (badOf s != 0) = true then (4, badOf s, nul) else (2, 0, s)
end Go.Proofs.YtnelglmbckgbgaaGreatDoor

/- Named and Read, as the reference has them: what each returns, for every text. Conditions: the text has at most 2^47 bytes. -/
namespace Go.Proofs.YtnelglmbckgbgaaGreatDoor
open Go.RowKit
/-- The texts of what is bad, in a row of their own. -/
def wrongsC : Array Value := #[.string nul, .string bt0, .string bt1, .string bt2, .string bt3, .string bt4, .string bt5]
theorem wrongs_any (w : World) :
    Calls Tryz.prog 12 #[] w fun e w' => e = .returned (.slice (some ⟨w.heap.size, 0, none⟩) 7 7) ∧ w' = w.alloc (.cells wrongsC 9) := by
  go_enter Tryz.func12, Tryz.ntmps12
  go_wp2
  go_ret
  exact ⟨rfl, rfl⟩
theorem wrongs_cell (w : World) : (w.alloc (.cells wrongsC 9)).cell? ⟨w.heap.size, 1, none⟩ = some (.string bt0) ∧ (w.alloc (.cells wrongsC 9)).cell? ⟨w.heap.size, 2, none⟩ = some (.string bt1) ∧ (w.alloc (.cells wrongsC 9)).cell? ⟨w.heap.size, 3, none⟩ = some (.string bt2) ∧ (w.alloc (.cells wrongsC 9)).cell? ⟨w.heap.size, 4, none⟩ = some (.string bt3) ∧ (w.alloc (.cells wrongsC 9)).cell? ⟨w.heap.size, 5, none⟩ = some (.string bt4) ∧ (w.alloc (.cells wrongsC 9)).cell? ⟨w.heap.size, 6, none⟩ = some (.string bt5) := by
  refine ⟨?_, ?_, ?_, ?_, ?_, ?_⟩ <;> simp [wrongsC]
end Go.Proofs.YtnelglmbckgbgaaGreatDoor

/- Plain facts on how values stand in a row. Nothing is walked here. -/
namespace Go.Proofs.YtnelglmbckgbgaaGreatDoor
open Go.RowKit
theorem cmpI_neg (a b : Int) : cmpI a b = -cmpI b a := by unfold cmpI; split <;> split <;> omega
theorem cmpI_zero {a b : Int} : cmpI a b = 0 ↔ a = b := by unfold cmpI; split <;> (try split) <;> omega
theorem cmpI_bd (a b : Int) : -1 ≤ cmpI a b ∧ cmpI a b ≤ 1 := by unfold cmpI; split <;> (try split) <;> omega
theorem cmpI_le {a b : Int} : cmpI a b ≤ 0 ↔ a ≤ b := by unfold cmpI; split <;> (try split) <;> omega
theorem cb_neg : ∀ a b : List UInt8, Lib.compareBytes a b = -Lib.compareBytes b a
  | [], [] => by simp [Lib.compareBytes]
  | [], _ :: _ => by simp [Lib.compareBytes]
  | _ :: _, [] => by simp [Lib.compareBytes]
  | a :: al, b :: bl => by
    have ih := cb_neg al bl
    simp only [Lib.compareBytes]
    by_cases h : a < b
    · have h2 : ¬ b < a := by rw [UInt8.lt_iff_toNat_lt] at *; omega
      rw [if_pos h, if_neg h2, if_pos h]
    · by_cases h2 : b < a
      · rw [if_neg h, if_pos h2, if_pos h2]; rfl
      · rw [if_neg h, if_neg h2, if_neg h2, if_neg h]; exact ih
theorem cb_zero : ∀ {a b : List UInt8}, Lib.compareBytes a b = 0 ↔ a = b
  | [], [] => by simp [Lib.compareBytes]
  | [], _ :: _ => by simp [Lib.compareBytes]
  | _ :: _, [] => by simp [Lib.compareBytes]
  | a :: al, b :: bl => by
    have ih := cb_zero (a := al) (b := bl)
    simp only [Lib.compareBytes]
    by_cases h : a < b
    · rw [if_pos h]
      have : a ≠ b := by rintro rfl; rw [UInt8.lt_iff_toNat_lt] at h; omega
      simp [this]
    · by_cases h2 : b < a
      · rw [if_neg h, if_pos h2]
        have : a ≠ b := by rintro rfl; rw [UInt8.lt_iff_toNat_lt] at h2; omega
        simp [this]
      · rw [if_neg h, if_neg h2]
        have : a = b := by rw [UInt8.lt_iff_toNat_lt] at *; exact UInt8.toNat_inj.1 (by omega)
        simp [this, ih]
theorem cb_bd : ∀ a b : List UInt8, -1 ≤ Lib.compareBytes a b ∧ Lib.compareBytes a b ≤ 1
  | [], [] => by simp [Lib.compareBytes]
  | [], _ :: _ => by simp [Lib.compareBytes]
  | _ :: _, [] => by simp [Lib.compareBytes]
  | a :: al, b :: bl => by
    have ih := cb_bd al bl
    simp only [Lib.compareBytes]
    split
    · omega
    · split
      · omega
      · exact ih
theorem cb_trans : ∀ {a b c : List UInt8}, Lib.compareBytes a b ≤ 0 → Lib.compareBytes b c ≤ 0 → Lib.compareBytes a c ≤ 0
  | [], _, [] => by simp [Lib.compareBytes]
  | [], _, _ :: _ => by simp [Lib.compareBytes]
  | _ :: _, [], _ => by simp [Lib.compareBytes]
  | _ :: _, _ :: _, [] => by simp [Lib.compareBytes]
  | a :: al, b :: bl, c :: cl => by
    have ih := cb_trans (a := al) (b := bl) (c := cl)
    simp only [Lib.compareBytes]
    intro h1 h2
    by_cases p : a < b
    · by_cases q : b < c
      · rw [if_pos (by rw [UInt8.lt_iff_toNat_lt] at *; omega)]; omega
      · rw [if_neg q] at h2
        by_cases r : c < b
        · rw [if_pos r] at h2; omega
        · have e : b = c := by rw [UInt8.lt_iff_toNat_lt] at *; exact UInt8.toNat_inj.1 (by omega)
          subst e; rw [if_pos p]; omega
    · rw [if_neg p] at h1
      by_cases r : b < a
      · rw [if_pos r] at h1; omega
      · rw [if_neg r] at h1
        have e : a = b := by rw [UInt8.lt_iff_toNat_lt] at *; exact UInt8.toNat_inj.1 (by omega)
        subst e
        by_cases q : a < c
        · rw [if_pos q]; omega
        · rw [if_neg q] at h2 ⊢
          by_cases r2 : c < a
          · rw [if_pos r2] at h2; omega
          · rw [if_neg r2] at h2 ⊢; exact ih h1 h2
theorem cmpS_zero {a b : ByteArray} : cmpS a b = 0 ↔ a = b := by
  unfold cmpS
  rw [cb_zero]
  constructor
  · intro h
    obtain ⟨⟨l⟩⟩ := a
    obtain ⟨⟨m⟩⟩ := b
    simp at h
    rw [h]
  · rintro rfl; rfl
theorem cmpV_neg (k n : Int) (s : ByteArray) (k' n' : Int) (s' : ByteArray) : cmpV k n s k' n' s' = -cmpV k' n' s' k n s := by
  unfold cmpV
  have e := cmpI_neg k k'
  by_cases h : cmpI k k' = 0
  · have hk := cmpI_zero.1 h
    subst hk
    have hh : ¬ (cmpI k k ≠ 0) := by simp [h]
    rw [if_neg hh, if_neg hh]
    by_cases h2 : k = 2
    · rw [if_pos h2, if_pos h2]; exact cb_neg _ _
    · rw [if_neg h2, if_neg h2]; exact cmpI_neg _ _
  · rw [if_pos h, if_pos (by omega)]; exact e
theorem cmpV_bd (k n : Int) (s : ByteArray) (k' n' : Int) (s' : ByteArray) : -1 ≤ cmpV k n s k' n' s' ∧ cmpV k n s k' n' s' ≤ 1 := by
  unfold cmpV
  split
  · exact cmpI_bd _ _
  · split
    · exact cb_bd _ _
    · exact cmpI_bd _ _
theorem cmpV_trans {k n : Int} {s : ByteArray} {k' n' : Int} {s' : ByteArray} {k2 n2 : Int} {s2 : ByteArray} (h1 : cmpV k n s k' n' s' ≤ 0) (h2 : cmpV k' n' s' k2 n2 s2 ≤ 0) : cmpV k n s k2 n2 s2 ≤ 0 := by
  unfold cmpV at *
  by_cases a : cmpI k k' = 0
  · have hk := cmpI_zero.1 a
    subst hk
    rw [if_neg (by simpa using a)] at h1
    by_cases b : cmpI k k2 = 0
    · have hk := cmpI_zero.1 b
      subst hk
      rw [if_neg (by simpa using a)] at h2 ⊢
      by_cases c : k = 2
      · rw [if_pos c] at *; exact cb_trans h1 h2
      · rw [if_neg c] at *; rw [cmpI_le] at *; omega
    · rw [if_pos b] at h2 ⊢; exact h2
  · rw [if_pos a, cmpI_le] at h1
    have hne : k ≠ k' := fun e => a (cmpI_zero.2 e)
    by_cases b : cmpI k' k2 = 0
    · have hk := cmpI_zero.1 b
      subst hk
      rw [if_pos a, cmpI_le]; exact h1
    · rw [if_pos b, cmpI_le] at h2
      rw [if_pos (fun e => hne (by have := cmpI_zero.1 e; omega)), cmpI_le]; omega
/-- What a value's kind says of its other fields. -/
theorem isVal_num {k n : Int} {s : ByteArray} (h : isVal k n s = true) (h2 : k ≠ 2) : s = nul := by
  unfold isVal at h
  rw [if_neg h2] at h
  apply toList_nil
  repeat' (split at h)
  all_goals simp_all
theorem isVal_txt {n : Int} {s : ByteArray} (h : isVal 2 n s = true) : n = 0 := by
  unfold isVal at h
  simp at h
  exact h.1
theorem cmpV_zero {k n : Int} {s : ByteArray} {k' n' : Int} {s' : ByteArray} (h : isVal k n s = true) (h' : isVal k' n' s' = true) : cmpV k n s k' n' s' = 0 ↔ k = k' ∧ n = n' ∧ s = s' := by
  unfold cmpV
  by_cases a : cmpI k k' = 0
  · have hk := cmpI_zero.1 a
    subst hk
    rw [if_neg (by simpa using a)]
    by_cases c : k = 2
    · subst c
      rw [if_pos rfl, cmpS_zero]
      have e1 := isVal_txt h
      have e2 := isVal_txt h'
      simp [e1, e2]
    · rw [if_neg c, cmpI_zero]
      have e1 := isVal_num h c
      have e2 := isVal_num h' c
      simp [e1, e2]
  · rw [if_pos a]
    have hne : k ≠ k' := fun e => a (cmpI_zero.2 e)
    simp [a, hne]
end Go.Proofs.YtnelglmbckgbgaaGreatDoor

/- Plain facts: what is read of a text is a value and is shown as that text; what is shown of a value is read as it. Nothing is walked here. -/
namespace Go.Proofs.YtnelglmbckgbgaaGreatDoor
open Go.RowKit
theorem eq_of_toList {s t : ByteArray} (h : (s.toList == t.data.toList) = true) : s = t := by
  rw [beq_iff_eq, ByteArray.toList_eq] at h
  obtain ⟨⟨l⟩⟩ := s
  obtain ⟨⟨m⟩⟩ := t
  simp at h
  rw [h]
theorem badOf_cases (s : ByteArray) : badOf s = 0 ∨ (badOf s = 1 ∧ s = bt0) ∨ (badOf s = 2 ∧ s = bt1) ∨ (badOf s = 3 ∧ s = bt2) ∨ (badOf s = 4 ∧ s = bt3) ∨ (badOf s = 5 ∧ s = bt4) ∨ (badOf s = 6 ∧ s = bt5) := by
  unfold badOf
  split
  · rename_i h; exact Or.inr (Or.inl ⟨rfl, eq_of_toList (t := bt0) h⟩)
  split
  · rename_i h; exact Or.inr (Or.inr (Or.inl ⟨rfl, eq_of_toList (t := bt1) h⟩))
  split
  · rename_i h; exact Or.inr (Or.inr (Or.inr (Or.inl ⟨rfl, eq_of_toList (t := bt2) h⟩)))
  split
  · rename_i h; exact Or.inr (Or.inr (Or.inr (Or.inr (Or.inl ⟨rfl, eq_of_toList (t := bt3) h⟩))))
  split
  · rename_i h; exact Or.inr (Or.inr (Or.inr (Or.inr (Or.inr (Or.inl ⟨rfl, eq_of_toList (t := bt4) h⟩)))))
  split
  · rename_i h; exact Or.inr (Or.inr (Or.inr (Or.inr (Or.inr (Or.inr ⟨rfl, eq_of_toList (t := bt5) h⟩)))))
  · exact Or.inl rfl
theorem rd_all (s : ByteArray) : isVal (rd s).1 (rd s).2.1 (rd s).2.2 = true ∧ (-9223372036854775808 ≤ (rd s).2.1 ∧ (rd s).2.1 ≤ 9223372036854775807) ∧ ((s.size : Int) ≤ 200 → sh (rd s).1 (rd s).2.1 (rd s).2.2 = s) := by
  unfold rd
  by_cases h0 : s.toList.isEmpty = true
  · rw [if_pos h0]
    have := toList_nil h0
    subst this
    exact ⟨by decide +kernel, by decide +kernel, fun _ => by decide +kernel⟩
  rw [if_neg h0]
  by_cases h1 : (200 : Int) < (s.size : Int)
  · rw [if_pos h1]
    exact ⟨by decide +kernel, by decide +kernel, fun h => by omega⟩
  rw [if_neg h1]
  cases hn : numOf s with
  | some v =>
    obtain ⟨ha, hi⟩ := numOf_some hn
    have hb := atoi_bd ha
    refine ⟨?_, hb, fun _ => ?_⟩
    · show nul.toList.isEmpty = true
      decide +kernel
    show itoaB v = s
    unfold itoaB
    rw [hi]
  | none =>
    dsimp only
    split
    · rename_i h; exact ⟨by decide +kernel, by decide +kernel, fun _ => (eq_of_toList (t := tT) h).symm⟩
    split
    · rename_i h; exact ⟨by decide +kernel, by decide +kernel, fun _ => (eq_of_toList (t := tF) h).symm⟩
    split
    · rename_i hb
      rcases badOf_cases s with h | h | h | h | h | h | h
      · rw [h] at hb; exact absurd hb (by decide +kernel)
      all_goals
        obtain ⟨e, rfl⟩ := h
        rw [e]
        exact ⟨by decide +kernel, by decide +kernel, fun _ => by decide +kernel⟩
    · refine ⟨?_, (by omega : (-9223372036854775808 : Int) ≤ 0 ∧ (0 : Int) ≤ 9223372036854775807), fun _ => rfl⟩
      unfold isVal
      simp
      omega
theorem rd_empty : rd nul = (0, 0, nul) := by decide +kernel
theorem numOf_itoa (n : Int) (h0 : -9223372036854775808 ≤ n) (h1 : n ≤ 9223372036854775807) : numOf (itoaB n) = some n := by
  unfold numOf
  have e : (itoaB n).data.toList = Lib.itoa n := rfl
  rw [e, atoi_itoa n h0 h1]
  simp
theorem rd_num (n : Int) (h0 : -9223372036854775808 ≤ n) (h1 : n ≤ 9223372036854775807) : rd (itoaB n) = (1, n, nul) := by
  unfold rd
  have e : (itoaB n).data.toList = Lib.itoa n := rfl
  have hl := itoa_len n h0 h1
  have hne := itoa_ne n
  have hs : (itoaB n).size ≤ 20 := by
    show (itoaB n).data.size ≤ 20
    rw [← Array.length_toList, e]; exact hl
  rw [if_neg (by rw [toList_itoaB, List.isEmpty_iff]; exact hne), if_neg (by omega), numOf_itoa n h0 h1]
theorem rd_T : rd tT = (3, 1, nul) := by decide +kernel
theorem rd_F : rd tF = (3, 0, nul) := by decide +kernel
theorem rd_b0 : rd bt0 = (4, 1, nul) := by decide +kernel
theorem rd_b1 : rd bt1 = (4, 2, nul) := by decide +kernel
theorem rd_b2 : rd bt2 = (4, 3, nul) := by decide +kernel
theorem rd_b3 : rd bt3 = (4, 4, nul) := by decide +kernel
theorem rd_b4 : rd bt4 = (4, 5, nul) := by decide +kernel
theorem rd_b5 : rd bt5 = (4, 6, nul) := by decide +kernel
theorem rd_sh (k n : Int) (s : ByteArray) (hv : isVal k n s = true) (h2 : k ≠ 2) (h0 : -9223372036854775808 ≤ n) (h1 : n ≤ 9223372036854775807) : rd (sh k n s) = (k, n, s) := by
  have hs := isVal_num hv h2
  subst hs
  unfold isVal at hv
  by_cases k0 : k = 0
  · subst k0
    simp at hv
    rw [hv]
    exact rd_empty
  by_cases k1 : k = 1
  · subst k1; exact rd_num n h0 h1
  by_cases k3 : k = 3
  · subst k3
    simp at hv
    rcases hv with rfl | rfl
    · exact rd_F
    · exact rd_T
  by_cases k4 : k = 4
  · subst k4
    simp at hv
    have : n = 1 ∨ n = 2 ∨ n = 3 ∨ n = 4 ∨ n = 5 ∨ n = 6 := by omega
    rcases this with rfl | rfl | rfl | rfl | rfl | rfl
    · exact rd_b0
    · exact rd_b1
    · exact rd_b2
    · exact rd_b3
    · exact rd_b4
    · exact rd_b5
  · rw [if_neg k0, if_neg k1, if_neg h2, if_neg k3, if_neg k4] at hv
    cases hv
theorem rd_fact : rd ⟨#[45, 49, 50]⟩ = (1, -12, nul) := by decide +kernel
end Go.Proofs.YtnelglmbckgbgaaGreatDoor

/- Read, as the reference has it, reads any text as the program does; and so the law ValueReads returns true. Conditions: the text has at most 2^47 bytes; the package variables hold what the program's text lays ('Env'). -/
namespace Go.Proofs.YtnelglmbckgbgaaGreatDoor
open Go.RowKit
theorem kept3 (w : World) (b : Nat) (x y z x' y' z' : Value) (o : Obj) (c0 : w.cell? ⟨b, 0, none⟩ = some x') (c1 : w.cell? ⟨b, 1, none⟩ = some y') (c2 : w.cell? ⟨b, 2, none⟩ = some z') :
    ((((w.setCell ⟨b, 0, none⟩ x).setCell ⟨b, 1, none⟩ y).setCell ⟨b, 2, none⟩ z).alloc o).cell? ⟨b, 0, none⟩ = some x ∧ ((((w.setCell ⟨b, 0, none⟩ x).setCell ⟨b, 1, none⟩ y).setCell ⟨b, 2, none⟩ z).alloc o).cell? ⟨b, 1, none⟩ = some y ∧ ((((w.setCell ⟨b, 0, none⟩ x).setCell ⟨b, 1, none⟩ y).setCell ⟨b, 2, none⟩ z).alloc o).cell? ⟨b, 2, none⟩ = some z := by
  refine ⟨?_, ?_, ?_⟩
  · rw [World.cell?_alloc_some _ _ _ (by simp [go_sem, c0])]; simp [go_sem, c0]
  · rw [World.cell?_alloc_some _ _ _ (by simp [go_sem, c1])]; simp [go_sem, c1]
  · rw [World.cell?_alloc_some _ _ _ (by simp [go_sem, c2])]; simp [go_sem, c2]
theorem size_of_eq {s : ByteArray} {l : List UInt8} (h : (s.toList == l) = true) : s.size = l.length := by
  rw [beq_iff_eq, ByteArray.toList_eq] at h
  rw [← h]
  simp
end Go.Proofs.YtnelglmbckgbgaaGreatDoor

/- Number and Truth of a value, as the program and as the reference make them; which values are some, by the reference. Conditions: as each theorem says. -/
namespace Go.Proofs.YtnelglmbckgbgaaGreatDoor
open Go.RowKit
theorem hat (w : World) (o : Obj) (i : Nat) (h : i = w.heap.size) : (w.alloc o).heap[i]? = some o := by subst h; exact heap_alloc_new w o
theorem bset {w : World} {b o : Nat} {cs : Array Value} {u : Value} {t : TypeId} {f : Nat × Nat} (h : w.heap[b]? = some (.cells cs t f)) : (w.setCell ⟨b, o, none⟩ u).heap[b]? = some (.cells (cs.setIfInBounds o u) t f) := blk_set h
theorem cells3 {w : World} {b : Nat} {a0 a1 a2 : Value} {t : TypeId} (h : w.heap[b]? = some (.cells #[a0, a1, a2] t (0, 0))) :
    (w.cell? ⟨b, 0, none⟩ = some a0 ∧ w.cell? ⟨b, 1, none⟩ = some a1 ∧ w.cell? ⟨b, 2, none⟩ = some a2) ∧ (w.frozen? ⟨b, 0, none⟩ = false ∧ w.frozen? ⟨b, 1, none⟩ = false ∧ w.frozen? ⟨b, 2, none⟩ = false) := by
  simp [World.cell?, World.frozen?, h]
theorem set3 {w : World} {b : Nat} {a0 a1 a2 u0 u1 u2 : Value} {t : TypeId} (h : w.heap[b]? = some (.cells #[a0, a1, a2] t (0, 0))) :
    (((w.setCell ⟨b, 0, none⟩ u0).setCell ⟨b, 1, none⟩ u1).setCell ⟨b, 2, none⟩ u2).heap[b]? = some (.cells #[u0, u1, u2] t (0, 0)) := by
  rw [bset (bset (bset h))]
  rfl
theorem below3 {w : World} {b B : Nat} (hB : B ≤ b) {u0 u1 u2 : Value} : Below B w (((w.setCell ⟨b, 0, none⟩ u0).setCell ⟨b, 1, none⟩ u1).setCell ⟨b, 2, none⟩ u2) :=
  (((Below.refl _ _).setCell hB _).setCell hB _).setCell hB _
abbrev O3 (k n : Int) (s : ByteArray) : Obj := .cells #[.int .i64 k, .int .i64 n, .string s] 23
theorem bk {wx wy : World} {b : Nat} {o : Obj} (h : wx.heap[b]? = some o) (hb : Below wx.heap.size wx wy) : wy.heap[b]? = some o := by rw [hb.block _ (lt_of_blk h)]; exact h
theorem bkA {wx : World} {b : Nat} {o : Obj} (h : wx.heap[b]? = some o) (o' : Obj) : (wx.alloc o').heap[b]? = some o := bk h ((Below.refl _ _).alloc (Nat.le_refl _) _)
/-- A value's own block, and that of the answer. -/
structure VS (w : World) (k n : Int) (s : ByteArray) (wx : World) : Prop where
  own : wx.heap[w.heap.size]? = some (O3 k n s)
  res : wx.heap[w.heap.size + 1]? = some (O3 0 0 nul)
  below : Below w.heap.size w wx
theorem VS.start (w : World) (k n : Int) (s : ByteArray) : VS w k n s ((w.alloc (O3 k n s)).alloc (O3 0 0 nul)) :=
  ⟨by rw [Below.heap_alloc _ _ _ (by simp), hat _ _ _ rfl], hat _ _ _ (by simp), ((Below.refl _ _).alloc (Nat.le_refl _) _).alloc (by simp) _⟩
theorem VS.next {w wx wy : World} {k n : Int} {s : ByteArray} (h : VS w k n s wx) (hb : Below wx.heap.size wx wy) : VS w k n s wy := ⟨bk h.own hb, bk h.res hb, bnext h.below hb h.below.size⟩
theorem VS.alloc {w wx : World} {k n : Int} {s : ByteArray} (h : VS w k n s wx) (o : Obj) : VS w k n s (wx.alloc o) := h.next ((Below.refl _ _).alloc (Nat.le_refl _) _)
/-- What Read makes of a text, if it is of a kind; else that it is bad. -/
def raK (q : Int) (s : ByteArray) : Int := if (rd s).1 = q then q else 4
def raN (q : Int) (s : ByteArray) : Int := if (rd s).1 = q then (rd s).2.1 else 2
def raS (q : Int) (s : ByteArray) : ByteArray := if (rd s).1 = q then (rd s).2.2 else nul
theorem ra_yes {q : Int} {s : ByteArray} (h : (rd s).1 = q) : raK q s = q ∧ raN q s = (rd s).2.1 ∧ raS q s = (rd s).2.2 := by unfold raK raN raS; rw [if_pos h, if_pos h, if_pos h]; exact ⟨rfl, rfl, rfl⟩
theorem ra_no {q : Int} {s : ByteArray} (h : ¬ (rd s).1 = q) : raK q s = 4 ∧ raN q s = 2 ∧ raS q s = nul := by unfold raK raN raS; rw [if_neg h, if_neg h, if_neg h]; exact ⟨rfl, rfl, rfl⟩
/-- Number of a value. -/
def nbK (k : Int) (s : ByteArray) : Int := if k = 4 then 4 else if k = 2 then raK 1 s else 1
def nbN (k n : Int) (s : ByteArray) : Int := if k = 0 then 0 else if k = 2 then raN 1 s else n
def nbS (k : Int) (s : ByteArray) : ByteArray := if k = 2 then raS 1 s else nul
/-- Truth of a value. -/
def tbK (k : Int) (s : ByteArray) : Int := if k = 4 then 4 else if k = 2 then raK 3 s else 3
def tbN (k n : Int) (s : ByteArray) : Int := if k = 0 then b2n false else if k = 1 then b2n (n != 0) else if k = 2 then raN 3 s else n
def tbS (k : Int) (s : ByteArray) : ByteArray := if k = 2 then raS 3 s else nul
theorem val_kinds {k n : Int} {s : ByteArray} (h : isVal k n s = true) : (k = 0 ∧ s = nul) ∨ (k = 1 ∧ s = nul) ∨ (k = 2 ∧ (s.size : Int) ≤ 200) ∨ (k = 3 ∧ s = nul) ∨ (k = 4 ∧ s = nul) := by
  unfold isVal at h
  by_cases h0 : k = 0
  · rw [if_pos h0, Bool.and_eq_true] at h; exact Or.inl ⟨h0, toList_nil h.2⟩
  rw [if_neg h0] at h
  by_cases h1 : k = 1
  · rw [if_pos h1] at h; exact Or.inr (Or.inl ⟨h1, toList_nil h⟩)
  rw [if_neg h1] at h
  by_cases h2 : k = 2
  · rw [if_pos h2, Bool.and_eq_true, decide_eq_true_eq] at h; exact Or.inr (Or.inr (Or.inl ⟨h2, h.2⟩))
  rw [if_neg h2] at h
  by_cases h3 : k = 3
  · rw [if_pos h3, Bool.and_eq_true] at h; exact Or.inr (Or.inr (Or.inr (Or.inl ⟨h3, toList_nil h.2⟩)))
  rw [if_neg h3] at h
  by_cases h4 : k = 4
  · rw [if_pos h4, Bool.and_eq_true] at h; exact Or.inr (Or.inr (Or.inr (Or.inr ⟨h4, toList_nil h.2⟩)))
  rw [if_neg h4] at h
  cases h
end Go.Proofs.YtnelglmbckgbgaaGreatDoor
namespace Go.Proofs.YtnelglmbckgbgaaGreatDoor
open Go.RowKit
set_option maxHeartbeats 2000000 in
theorem is_0a (n : Int) (s : ByteArray) (w : World) (h : (n == 0) = true) :
    Calls Tryz.prog 4 #[V 0 n s] w fun e w' => e = .returned (.bool s.toList.isEmpty) ∧ Below w.heap.size w w' := by
  go_enter Tryz.func4, Tryz.ntmps4
  go_wp2_with fail
  go_ret
  exact ⟨by simp, (Below.refl _ _).alloc (Nat.le_refl _) _⟩
set_option maxHeartbeats 2000000 in
theorem is_0b (n : Int) (s : ByteArray) (w : World) (h : (n == 0) = false) :
    Calls Tryz.prog 4 #[V 0 n s] w fun e w' => e = .returned (.bool false) ∧ Below w.heap.size w w' := by
  go_enter Tryz.func4, Tryz.ntmps4
  go_wp2_with fail
  go_ret
  exact ⟨rfl, (Below.refl _ _).alloc (Nat.le_refl _) _⟩
set_option maxHeartbeats 2000000 in
theorem is_1 (n : Int) (s : ByteArray) (w : World) :
    Calls Tryz.prog 4 #[V 1 n s] w fun e w' => e = .returned (.bool s.toList.isEmpty) ∧ Below w.heap.size w w' := by
  go_enter Tryz.func4, Tryz.ntmps4
  go_wp2_with fail
  go_ret
  exact ⟨by simp, (Below.refl _ _).alloc (Nat.le_refl _) _⟩
set_option maxHeartbeats 2000000 in
theorem is_2a (n : Int) (s : ByteArray) (w : World) (h : (n == 0) = true) :
    Calls Tryz.prog 4 #[V 2 n s] w fun e w' => e = .returned (.bool (decide ((s.size : Int) ≤ 200))) ∧ Below w.heap.size w w' := by
  go_enter Tryz.func4, Tryz.ntmps4
  go_wp2_with fail
  go_ret
  exact ⟨by simp, (Below.refl _ _).alloc (Nat.le_refl _) _⟩
set_option maxHeartbeats 2000000 in
theorem is_2b (n : Int) (s : ByteArray) (w : World) (h : (n == 0) = false) :
    Calls Tryz.prog 4 #[V 2 n s] w fun e w' => e = .returned (.bool false) ∧ Below w.heap.size w w' := by
  go_enter Tryz.func4, Tryz.ntmps4
  go_wp2_with fail
  go_ret
  exact ⟨rfl, (Below.refl _ _).alloc (Nat.le_refl _) _⟩
set_option maxHeartbeats 2000000 in
theorem is_3a (n : Int) (s : ByteArray) (w : World) (h : s.toList.isEmpty = false) :
    Calls Tryz.prog 4 #[V 3 n s] w fun e w' => e = .returned (.bool false) ∧ Below w.heap.size w w' := by
  go_enter Tryz.func4, Tryz.ntmps4
  go_wp2_with fail
  go_ret
  exact ⟨rfl, (Below.refl _ _).alloc (Nat.le_refl _) _⟩
set_option maxHeartbeats 2000000 in
theorem is_3b (n : Int) (s : ByteArray) (w : World) (h : s.toList.isEmpty = true) (h2 : (n == 0) = true) :
    Calls Tryz.prog 4 #[V 3 n s] w fun e w' => e = .returned (.bool true) ∧ Below w.heap.size w w' := by
  go_enter Tryz.func4, Tryz.ntmps4
  go_wp2_with fail
  go_ret
  exact ⟨rfl, (Below.refl _ _).alloc (Nat.le_refl _) _⟩
set_option maxHeartbeats 2000000 in
theorem is_3c (n : Int) (s : ByteArray) (w : World) (h : s.toList.isEmpty = true) (h2 : (n == 0) = false) :
    Calls Tryz.prog 4 #[V 3 n s] w fun e w' => e = .returned (.bool (n == 1)) ∧ Below w.heap.size w w' := by
  go_enter Tryz.func4, Tryz.ntmps4
  go_wp2_with fail
  go_ret
  exact ⟨by simp, (Below.refl _ _).alloc (Nat.le_refl _) _⟩
set_option maxHeartbeats 2000000 in
theorem is_4a (n : Int) (s : ByteArray) (w : World) (h : s.toList.isEmpty = false) :
    Calls Tryz.prog 4 #[V 4 n s] w fun e w' => e = .returned (.bool false) ∧ Below w.heap.size w w' := by
  go_enter Tryz.func4, Tryz.ntmps4
  go_wp2_with fail
  go_ret
  exact ⟨rfl, (Below.refl _ _).alloc (Nat.le_refl _) _⟩
set_option maxHeartbeats 2000000 in
theorem is_4b (n : Int) (s : ByteArray) (w : World) (h : s.toList.isEmpty = true) (h2 : ¬ 1 ≤ n) :
    Calls Tryz.prog 4 #[V 4 n s] w fun e w' => e = .returned (.bool false) ∧ Below w.heap.size w w' := by
  go_enter Tryz.func4, Tryz.ntmps4
  go_wp2_with fail
  go_ret
  exact ⟨rfl, (Below.refl _ _).alloc (Nat.le_refl _) _⟩
set_option maxHeartbeats 2000000 in
theorem is_4c (n : Int) (s : ByteArray) (w : World) (h : s.toList.isEmpty = true) (h2 : 1 ≤ n) :
    Calls Tryz.prog 4 #[V 4 n s] w fun e w' => e = .returned (.bool (decide (n ≤ 6))) ∧ Below w.heap.size w w' := by
  go_enter Tryz.func4, Tryz.ntmps4
  go_wp2_with fail
  go_ret
  exact ⟨by simp, (Below.refl _ _).alloc (Nat.le_refl _) _⟩
set_option maxHeartbeats 2000000 in
theorem is_no (k n : Int) (s : ByteArray) (w : World) (h0 : (k == 0) = false) (h1 : (k == 1) = false) (h2 : (k == 2) = false) (h3 : (k == 3) = false) (h4 : (k == 4) = false) :
    Calls Tryz.prog 4 #[V k n s] w fun e w' => e = .returned (.bool false) ∧ Below w.heap.size w w' := by
  go_enter Tryz.func4, Tryz.ntmps4
  go_wp2_with fail
  go_ret
  exact ⟨rfl, (Below.refl _ _).alloc (Nat.le_refl _) _⟩
theorem is_any (k n : Int) (s : ByteArray) (w : World) :
    Calls Tryz.prog 4 #[V k n s] w fun e w' => e = .returned (.bool (isVal k n s)) ∧ Below w.heap.size w w' := by
  unfold isVal
  by_cases h0 : k = 0
  · subst h0
    rw [if_pos rfl]
    cases h : (n == 0)
    · exact is_0b n s w h
    · exact is_0a n s w h
  by_cases h1 : k = 1
  · subst h1
    rw [if_neg h0, if_pos rfl]
    exact is_1 n s w
  by_cases h2 : k = 2
  · subst h2
    rw [if_neg h0, if_neg h1, if_pos rfl]
    cases h : (n == 0)
    · exact is_2b n s w h
    · exact is_2a n s w h
  by_cases h3 : k = 3
  · subst h3
    rw [if_neg h0, if_neg h1, if_neg h2, if_pos rfl]
    cases h : s.toList.isEmpty
    · rw [Bool.and_false]; exact is_3a n s w h
    · cases h2 : (n == 0)
      · rw [Bool.false_or, Bool.and_true]; exact is_3c n s w h h2
      · exact is_3b n s w h h2
  by_cases h4 : k = 4
  · subst h4
    rw [if_neg h0, if_neg h1, if_neg h2, if_neg h3, if_pos rfl]
    cases h : s.toList.isEmpty
    · rw [Bool.and_false]; exact is_4a n s w h
    · by_cases h2 : 1 ≤ n
      · rw [decide_eq_true h2, Bool.true_and, Bool.and_true]; exact is_4c n s w h h2
      · rw [decide_eq_false h2, Bool.false_and, Bool.false_and]; exact is_4b n s w h h2
  rw [if_neg h0, if_neg h1, if_neg h2, if_neg h3, if_neg h4]
  exact is_no k n s w (beq_eq_false_iff_ne.2 h0) (beq_eq_false_iff_ne.2 h1) (beq_eq_false_iff_ne.2 h2) (beq_eq_false_iff_ne.2 h3) (beq_eq_false_iff_ne.2 h4)
set_option maxHeartbeats 2000000 in
theorem rshow_0 (n : Int) (s : ByteArray) (w : World) :
    Calls Tryz.prog 6 #[V 0 n s] w fun e w' => e = .returned (.string nul) ∧ Below w.heap.size w w' := by
  go_enter Tryz.func6, Tryz.ntmps6
  go_wp2_with fail
  go_ret
  exact ⟨rfl, (Below.refl _ _).alloc (Nat.le_refl _) _⟩
set_option maxHeartbeats 2000000 in
theorem rshow_2 (n : Int) (s : ByteArray) (w : World) :
    Calls Tryz.prog 6 #[V 2 n s] w fun e w' => e = .returned (.string s) ∧ Below w.heap.size w w' := by
  go_enter Tryz.func6, Tryz.ntmps6
  go_wp2_with fail
  go_ret
  exact ⟨rfl, (Below.refl _ _).alloc (Nat.le_refl _) _⟩
set_option maxHeartbeats 2000000 in
theorem rshow_3a (n : Int) (s : ByteArray) (w : World) (h : (n == 1) = true) :
    Calls Tryz.prog 6 #[V 3 n s] w fun e w' => e = .returned (.string tT) ∧ Below w.heap.size w w' := by
  go_enter Tryz.func6, Tryz.ntmps6
  go_wp2_with fail
  go_ret
  exact ⟨rfl, (Below.refl _ _).alloc (Nat.le_refl _) _⟩
set_option maxHeartbeats 2000000 in
theorem rshow_3b (n : Int) (s : ByteArray) (w : World) (h : (n == 1) = false) :
    Calls Tryz.prog 6 #[V 3 n s] w fun e w' => e = .returned (.string tF) ∧ Below w.heap.size w w' := by
  go_enter Tryz.func6, Tryz.ntmps6
  go_wp2_with fail
  go_ret
  exact ⟨rfl, (Below.refl _ _).alloc (Nat.le_refl _) _⟩
set_option maxHeartbeats 2000000 in
theorem rshow_1 (n : Int) (s : ByteArray) (w : World) (h0 : -9223372036854775808 ≤ n) (h1 : n ≤ 9223372036854775807) :
    Calls Tryz.prog 6 #[V 1 n s] w fun e w' => e = .returned (.string (itoaB n)) ∧ Below w.heap.size w w' := by
  go_enter Tryz.func6, Tryz.ntmps6
  go_wp2_with fail
  refine (digits_any n _ h0 h1).mono ?_
  rintro e w1 ⟨rfl, b1⟩
  have hB := bnext ((Below.refl w.heap.size w).alloc (Nat.le_refl _) _) b1 (by simp)
  go_wp2_with fail
  go_ret
  exact ⟨rfl, hB⟩
set_option maxHeartbeats 2000000 in
theorem rshow_41 (s : ByteArray) (w : World) :
    Calls Tryz.prog 6 #[V 4 1 s] w fun e w' => e = .returned (.string bt0) ∧ Below w.heap.size w w' := by
  go_enter Tryz.func6, Tryz.ntmps6
  go_wp2_with fail
  refine (wrongs_any _).mono ?_
  rintro e w1 ⟨rfl, rfl⟩
  have hW := wrongs_cell (w.alloc (O3 4 1 s))
  rw [show (w.alloc (O3 4 1 s)).heap.size = w.heap.size + 1 from by simp] at hW
  obtain ⟨c1, c2, c3, c4, c5, c6⟩ := hW
  have c0 : ((w.alloc (O3 4 1 s)).alloc (.cells wrongsC 9)).cell? ⟨w.heap.size, 1, none⟩ = some (.int .i64 1) := by simp [World.cell?_alloc_some]
  go_wp2_with fail
  go_ret
  exact ⟨rfl, ((Below.refl _ _).alloc (Nat.le_refl _) _).alloc (by simp) _⟩
set_option maxHeartbeats 2000000 in
theorem rshow_42 (s : ByteArray) (w : World) :
    Calls Tryz.prog 6 #[V 4 2 s] w fun e w' => e = .returned (.string bt1) ∧ Below w.heap.size w w' := by
  go_enter Tryz.func6, Tryz.ntmps6
  go_wp2_with fail
  refine (wrongs_any _).mono ?_
  rintro e w1 ⟨rfl, rfl⟩
  have hW := wrongs_cell (w.alloc (O3 4 2 s))
  rw [show (w.alloc (O3 4 2 s)).heap.size = w.heap.size + 1 from by simp] at hW
  obtain ⟨c1, c2, c3, c4, c5, c6⟩ := hW
  have c0 : ((w.alloc (O3 4 2 s)).alloc (.cells wrongsC 9)).cell? ⟨w.heap.size, 1, none⟩ = some (.int .i64 2) := by simp [World.cell?_alloc_some]
  go_wp2_with fail
  go_ret
  exact ⟨rfl, ((Below.refl _ _).alloc (Nat.le_refl _) _).alloc (by simp) _⟩
set_option maxHeartbeats 2000000 in
theorem rshow_43 (s : ByteArray) (w : World) :
    Calls Tryz.prog 6 #[V 4 3 s] w fun e w' => e = .returned (.string bt2) ∧ Below w.heap.size w w' := by
  go_enter Tryz.func6, Tryz.ntmps6
  go_wp2_with fail
  refine (wrongs_any _).mono ?_
  rintro e w1 ⟨rfl, rfl⟩
  have hW := wrongs_cell (w.alloc (O3 4 3 s))
  rw [show (w.alloc (O3 4 3 s)).heap.size = w.heap.size + 1 from by simp] at hW
  obtain ⟨c1, c2, c3, c4, c5, c6⟩ := hW
  have c0 : ((w.alloc (O3 4 3 s)).alloc (.cells wrongsC 9)).cell? ⟨w.heap.size, 1, none⟩ = some (.int .i64 3) := by simp [World.cell?_alloc_some]
  go_wp2_with fail
  go_ret
  exact ⟨rfl, ((Below.refl _ _).alloc (Nat.le_refl _) _).alloc (by simp) _⟩
set_option maxHeartbeats 2000000 in
theorem rshow_44 (s : ByteArray) (w : World) :
    Calls Tryz.prog 6 #[V 4 4 s] w fun e w' => e = .returned (.string bt3) ∧ Below w.heap.size w w' := by
  go_enter Tryz.func6, Tryz.ntmps6
  go_wp2_with fail
  refine (wrongs_any _).mono ?_
  rintro e w1 ⟨rfl, rfl⟩
  have hW := wrongs_cell (w.alloc (O3 4 4 s))
  rw [show (w.alloc (O3 4 4 s)).heap.size = w.heap.size + 1 from by simp] at hW
  obtain ⟨c1, c2, c3, c4, c5, c6⟩ := hW
  have c0 : ((w.alloc (O3 4 4 s)).alloc (.cells wrongsC 9)).cell? ⟨w.heap.size, 1, none⟩ = some (.int .i64 4) := by simp [World.cell?_alloc_some]
  go_wp2_with fail
  go_ret
  exact ⟨rfl, ((Below.refl _ _).alloc (Nat.le_refl _) _).alloc (by simp) _⟩
set_option maxHeartbeats 2000000 in
theorem rshow_45 (s : ByteArray) (w : World) :
    Calls Tryz.prog 6 #[V 4 5 s] w fun e w' => e = .returned (.string bt4) ∧ Below w.heap.size w w' := by
  go_enter Tryz.func6, Tryz.ntmps6
  go_wp2_with fail
  refine (wrongs_any _).mono ?_
  rintro e w1 ⟨rfl, rfl⟩
  have hW := wrongs_cell (w.alloc (O3 4 5 s))
  rw [show (w.alloc (O3 4 5 s)).heap.size = w.heap.size + 1 from by simp] at hW
  obtain ⟨c1, c2, c3, c4, c5, c6⟩ := hW
  have c0 : ((w.alloc (O3 4 5 s)).alloc (.cells wrongsC 9)).cell? ⟨w.heap.size, 1, none⟩ = some (.int .i64 5) := by simp [World.cell?_alloc_some]
  go_wp2_with fail
  go_ret
  exact ⟨rfl, ((Below.refl _ _).alloc (Nat.le_refl _) _).alloc (by simp) _⟩
set_option maxHeartbeats 2000000 in
theorem rshow_46 (s : ByteArray) (w : World) :
    Calls Tryz.prog 6 #[V 4 6 s] w fun e w' => e = .returned (.string bt5) ∧ Below w.heap.size w w' := by
  go_enter Tryz.func6, Tryz.ntmps6
  go_wp2_with fail
  refine (wrongs_any _).mono ?_
  rintro e w1 ⟨rfl, rfl⟩
  have hW := wrongs_cell (w.alloc (O3 4 6 s))
  rw [show (w.alloc (O3 4 6 s)).heap.size = w.heap.size + 1 from by simp] at hW
  obtain ⟨c1, c2, c3, c4, c5, c6⟩ := hW
  have c0 : ((w.alloc (O3 4 6 s)).alloc (.cells wrongsC 9)).cell? ⟨w.heap.size, 1, none⟩ = some (.int .i64 6) := by simp [World.cell?_alloc_some]
  go_wp2_with fail
  go_ret
  exact ⟨rfl, ((Below.refl _ _).alloc (Nat.le_refl _) _).alloc (by simp) _⟩
theorem rshow_any (k n : Int) (s : ByteArray) (w : World) (hv : isVal k n s = true) (h0 : -9223372036854775808 ≤ n) (h1 : n ≤ 9223372036854775807) :
    Calls Tryz.prog 6 #[V k n s] w fun e w' => e = .returned (.string (sh k n s)) ∧ Below w.heap.size w w' := by
  rcases val_kinds hv with ⟨rfl, _⟩ | ⟨rfl, _⟩ | ⟨rfl, _⟩ | ⟨rfl, _⟩ | ⟨rfl, _⟩
  · exact rshow_0 n s w
  · exact rshow_1 n s w h0 h1
  · exact rshow_2 n s w
  · have hn : n = 0 ∨ n = 1 := by
      unfold isVal at hv
      simp only [show ¬ (3 : Int) = 0 from by decide, show ¬ (3 : Int) = 1 from by decide, show ¬ (3 : Int) = 2 from by decide, if_false, if_true, Bool.and_eq_true, Bool.or_eq_true, beq_iff_eq] at hv
      exact hv.1
    rcases hn with rfl | rfl
    · exact rshow_3b 0 s w rfl
    · exact rshow_3a 1 s w rfl
  · have hn : 1 ≤ n ∧ n ≤ 6 := by
      unfold isVal at hv
      simp only [show ¬ (4 : Int) = 0 from by decide, show ¬ (4 : Int) = 1 from by decide, show ¬ (4 : Int) = 2 from by decide, show ¬ (4 : Int) = 3 from by decide, if_false, if_true, Bool.and_eq_true, decide_eq_true_eq] at hv
      exact hv.1
    obtain rfl | rfl | rfl | rfl | rfl | rfl : n = 1 ∨ n = 2 ∨ n = 3 ∨ n = 4 ∨ n = 5 ∨ n = 6 := by omega
    · exact rshow_41 s w
    · exact rshow_42 s w
    · exact rshow_43 s w
    · exact rshow_44 s w
    · exact rshow_45 s w
    · exact rshow_46 s w
end Go.Proofs.YtnelglmbckgbgaaGreatDoor
