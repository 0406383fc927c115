
/- Masks: plain. How a mask is read byte by byte, and what is reached behind each piece. Nothing is walked here. -/
import Derived.Test.YtlaeoofjoofbcaaGreatDoorFma
namespace Go.Proofs.YtlaeoofjoofbcaaGreatDoor.fw
open Go.RowKit Go.Sort
/-- Does a piece that is one byte take this one? -/
def fits : Mk → UInt8 → Bool
  | .many, _ => false
  | .one, _ => true
  | .byte b, c => b == c
/-- Any of the beginnings up to a length. -/
def upto (r : Nat → Bool) : Nat → Bool
  | 0 => r 0
  | i + 1 => upto r i || r (i + 1)
/-- What is reached behind one more piece. -/
def stp (s : List UInt8) (p : Mk) (r : Nat → Bool) : Nat → Bool := match p with
  | .many => upto r
  | p => fun i => match i with
    | 0 => false
    | i + 1 => match s[i]? with
      | some c => r i && fits p c
      | none => false
theorem upto_iff (r : Nat → Bool) (i : Nat) : upto r i = true ↔ ∃ j, j ≤ i ∧ r j = true := by
  induction i with
  | zero => simp [upto]
  | succ i ih =>
    simp only [upto, Bool.or_eq_true, ih]
    constructor
    · rintro (⟨j, hj, h⟩ | h)
      · exact ⟨j, by omega, h⟩
      · exact ⟨i + 1, Nat.le_refl _, h⟩
    · rintro ⟨j, hj, h⟩
      by_cases e : j = i + 1
      · exact .inr (e ▸ h)
      · exact .inl ⟨j, by omega, h⟩
theorem lk_many_iff (m : List Mk) (s : List UInt8) : lkL (.many :: m) s = true ↔ ∃ k, k ≤ s.length ∧ lkL m (s.drop k) = true := by
  induction s with
  | nil =>
    rw [lkL]
    constructor
    · intro h; exact ⟨0, Nat.le_refl _, h⟩
    · rintro ⟨k, hk, h⟩
      simpa using h
  | cons c s ih =>
    rw [lkL, Bool.or_eq_true, ih]
    constructor
    · rintro (h | ⟨k, hk, h⟩)
      · exact ⟨0, Nat.zero_le _, h⟩
      · exact ⟨k + 1, by simp; omega, h⟩
    · rintro ⟨k, hk, h⟩
      cases k with
      | zero => exact .inl h
      | succ k => exact .inr ⟨k, by simp at hk; omega, h⟩
theorem lk_one_iff (p : Mk) (hp : p ≠ .many) (m : List Mk) (s : List UInt8) : lkL (p :: m) s = true ↔ ∃ c t, s = c :: t ∧ fits p c = true ∧ lkL m t = true := by
  cases s with
  | nil => cases p <;> simp_all [lkL]
  | cons c t =>
    have e : lkL (p :: m) (c :: t) = (fits p c && lkL m t) := by
      cases p <;> simp_all [lkL, fits]
    rw [e, Bool.and_eq_true]
    constructor
    · rintro ⟨h1, h2⟩; exact ⟨c, t, rfl, h1, h2⟩
    · rintro ⟨c', t', h, h1, h2⟩
      injection h with h3 h4
      subst h3; subst h4
      exact ⟨h1, h2⟩
theorem fold_iff (s : List UInt8) (m : List Mk) (r : Nat → Bool) :
    (m.foldl (fun r p => stp s p r) r) s.length = true ↔ ∃ i, i ≤ s.length ∧ r i = true ∧ lkL m (s.drop i) = true := by
  induction m generalizing r with
  | nil =>
    simp only [List.foldl_nil]
    constructor
    · intro h; exact ⟨s.length, Nat.le_refl _, h, by simp [lkL]⟩
    · rintro ⟨i, hi, h, e⟩
      rw [lkL, List.isEmpty_iff, List.drop_eq_nil_iff] at e
      have : i = s.length := by omega
      exact this ▸ h
  | cons p m ih =>
    rw [List.foldl_cons, ih]
    by_cases hp : p = .many
    · subst hp
      constructor
      · rintro ⟨i, hi, h, e⟩
        obtain ⟨j, hj, hr⟩ := (upto_iff r i).mp h
        refine ⟨j, by omega, hr, (lk_many_iff m _).mpr ⟨i - j, by simp; omega, ?_⟩⟩
        rw [List.drop_drop]
        have : j + (i - j) = i := by omega
        rw [this]; exact e
      · rintro ⟨j, hj, hr, e⟩
        obtain ⟨k, hk, e⟩ := (lk_many_iff m _).mp e
        rw [List.drop_drop] at e
        rw [List.length_drop] at hk
        exact ⟨j + k, by omega, (upto_iff r _).mpr ⟨j, by omega, hr⟩, e⟩
    · constructor
      · rintro ⟨i, hi, h, e⟩
        cases i with
        | zero => cases p <;> simp_all [stp]
        | succ i =>
          have hlt : i < s.length := by omega
          have h2 : (r i && fits p s[i]) = true := by
            cases p <;> simp_all [stp]
          rw [Bool.and_eq_true] at h2
          refine ⟨i, by omega, h2.1, (lk_one_iff p hp m _).mpr ⟨s[i], s.drop (i + 1), ?_, h2.2, e⟩⟩
          exact List.drop_eq_getElem_cons hlt
      · rintro ⟨i, hi, h, e⟩
        obtain ⟨c, t, e1, e2, e3⟩ := (lk_one_iff p hp m _).mp e
        have hlt : i < s.length := by
          rcases Nat.lt_or_ge i s.length with h | h
          · exact h
          · rw [List.drop_eq_nil_of_le h] at e1; cases e1
        rw [List.drop_eq_getElem_cons hlt] at e1
        injection e1 with e4 e5
        refine ⟨i + 1, hlt, ?_, e5 ▸ e3⟩
        subst e4
        cases p <;> simp_all [stp]
theorem fold_lk (s : List UInt8) (m : List Mk) : (m.foldl (fun r p => stp s p r) (fun i => decide (i = 0))) s.length = lkL m s := by
  rw [Bool.eq_iff_iff, fold_iff]
  constructor
  · rintro ⟨i, -, h, e⟩
    rw [decide_eq_true_eq] at h
    subst h
    exact e
  · intro h; exact ⟨0, Nat.zero_le _, by simp, h⟩
/-- A mask is read byte by byte: the pieces so far, and was there a mark? -/
def rst (st : List Mk × Bool) (c : UInt8) : List Mk × Bool :=
  if st.2 then (st.1 ++ [.byte c], false) else if c = 126 then (st.1, true) else if c = 42 then (st.1 ++ [.many], false) else if c = 63 then (st.1 ++ [.one], false) else (st.1 ++ [.byte c], false)
def rdL (e : Bool) (l : List UInt8) : List Mk × Bool := l.foldl rst ([], e)
theorem rst_pre (a x : List Mk) (e : Bool) (c : UInt8) : rst (a ++ x, e) c = (a ++ (rst (x, e) c).1, (rst (x, e) c).2) := by
  unfold rst
  cases e
  · by_cases h1 : c = 126
    · simp [h1]
    · by_cases h2 : c = 42
      · simp [h2]
      · by_cases h3 : c = 63
        · simp [h3]
        · simp [h1, h2, h3]
  · simp
theorem fold_pre (a x : List Mk) (e : Bool) (l : List UInt8) : l.foldl rst (a ++ x, e) = (a ++ (l.foldl rst (x, e)).1, (l.foldl rst (x, e)).2) := by
  induction l generalizing x e with
  | nil => rfl
  | cons c l ih =>
    rw [List.foldl_cons, rst_pre, ih, List.foldl_cons]
theorem rd_cons (e : Bool) (c : UInt8) (l : List UInt8) : rdL e (c :: l) = ((rst ([], e) c).1 ++ (rdL (rst ([], e) c).2 l).1, (rdL (rst ([], e) c).2 l).2) := by
  show l.foldl rst (rst ([], e) c) = _
  have := fold_pre (rst ([], e) c).1 [] (rst ([], e) c).2 l
  rw [List.append_nil] at this
  exact this
/-- What Like makes of a mask that was read so. -/
def rdO (e : Bool) (l : List UInt8) : Option (List Mk) := if (rdL e l).2 then none else some (rdL e l).1
theorem rdO_cons (e : Bool) (c : UInt8) (l : List UInt8) : rdO e (c :: l) = (rdO (rst ([], e) c).2 l).map ((rst ([], e) c).1 ++ ·) := by
  unfold rdO
  rw [rd_cons]
  cases (rdL (rst ([], e) c).2 l).2 <;> rfl
theorem mk_one (b : UInt8) : mkL [b] = rdO false [b] := by
  rw [rdO_cons]
  unfold mkL
  by_cases h1 : b = 42
  · subst h1; rfl
  · by_cases h2 : b = 63
    · subst h2; rfl
    · by_cases h3 : b = 126
      · subst h3; rfl
      · simp [h1, h2, h3, rst, rdO, rdL]
theorem mk_two (b c : UInt8) (r : List UInt8) (i1 : mkL (c :: r) = rdO false (c :: r)) (i2 : mkL r = rdO false r) : mkL (b :: c :: r) = rdO false (b :: c :: r) := by
  rw [rdO_cons]
  unfold mkL
  by_cases h1 : b = 42
  · rw [if_pos h1, i1]; subst h1; rfl
  · by_cases h2 : b = 63
    · rw [if_neg h1, if_pos h2, i1]; subst h2; rfl
    · by_cases h3 : b = 126
      · rw [if_neg h1, if_neg h2, if_pos h3, i2]
        subst h3
        show _ = (rdO true (c :: r)).map _
        rw [rdO_cons]
        simp [rst, Option.map_map]
        rfl
      · rw [if_neg h1, if_neg h2, if_neg h3, i1]
        simp [rst, h1, h2, h3]
theorem mk_rd (l : List UInt8) : mkL l = rdO false l ∧ ∀ b, mkL (b :: l) = rdO false (b :: l) := by
  induction l with
  | nil => exact ⟨rfl, mk_one⟩
  | cons c r ih => exact ⟨ih.2 c, fun b => mk_two b c r (ih.2 c) ih.1⟩
end Go.Proofs.YtlaeoofjoofbcaaGreatDoor.fw
