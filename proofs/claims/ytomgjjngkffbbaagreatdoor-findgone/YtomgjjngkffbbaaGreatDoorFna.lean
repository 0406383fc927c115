
/- How often a part stands in a text: the library's Count and Replace and the document's Count say the same. Plain: nothing is walked here. Conditions: as each theorem says. -/
import Derived.Test.YtomgjjngkffbbaaGreatDoorFmc
import Derived.Lib.CountLaws
import Derived.Lib.Replace
namespace Go.Proofs.YtomgjjngkffbbaaGreatDoor.fw
open Go.RowKit Go.Sort
theorem cnt_miss {p : List UInt8} (hp : p ≠ []) (b : List UInt8) : ∀ s : List UInt8, Lib.index s p = -1 → cntL p b s = (0, s)
  | [], _ => cnt_nil p b
  | c :: s, h => by
    unfold Lib.index at h
    by_cases h1 : p.isPrefixOf (c :: s) = true
    · rw [if_pos h1] at h; cases h
    · rw [if_neg h1] at h
      have h2 : Lib.index s p = -1 := by
        by_cases h3 : (Lib.index s p == -1) = true
        · exact beq_iff_eq.1 h3
        · rw [if_neg h3] at h
          have := Lib.index_ge s p
          omega
      rw [cnt_no (Bool.eq_false_iff.2 h1), cnt_miss hp b s h2]
theorem cnt_hit {p : List UInt8} (hp : p ≠ []) (b : List UInt8) : ∀ (s : List UInt8) (i : Nat), Lib.index s p = (i : Int) → cntL p b s = ((cntL p b (s.drop (i + p.length))).1 + 1, s.take i ++ b ++ (cntL p b (s.drop (i + p.length))).2)
  | [], i, h => by
    unfold Lib.index at h
    rw [if_neg (by cases p with | nil => exact absurd rfl hp | cons a l => simp)] at h
    omega
  | c :: s, i, h => by
    unfold Lib.index at h
    by_cases h1 : p.isPrefixOf (c :: s) = true
    · rw [if_pos h1] at h
      have : i = 0 := by omega
      subst this
      rw [cnt_yes h1 hp, Nat.zero_add]
      simp
    · rw [if_neg h1] at h
      by_cases h3 : (Lib.index s p == -1) = true
      · rw [if_pos h3] at h; omega
      · rw [if_neg h3] at h
        have hge := Lib.index_ge s p
        have hne : Lib.index s p ≠ -1 := fun e => h3 (by rw [e]; rfl)
        obtain ⟨j, rfl⟩ : ∃ j, i = j + 1 := ⟨i - 1, by omega⟩
        have h4 : Lib.index s p = (j : Int) := by omega
        rw [cnt_no (Bool.eq_false_iff.2 h1), cnt_hit hp b s j h4]
        have e : j + 1 + p.length = (j + p.length) + 1 := by omega
        rw [e, List.drop_succ_cons, List.take_succ_cons]
        simp
theorem ix_room {s p : List UInt8} {i : Nat} (hp : p ≠ []) (h : Lib.index s p = (i : Int)) : (s.drop (i + p.length)).length < s.length := by
  have := Lib.drop_shorter (s := s) hp (by rw [h]; intro e; have := beq_iff_eq.1 e; omega)
  rw [h] at this
  exact this
theorem ix_two (s p : List UInt8) : Lib.index s p = -1 ∨ ∃ i : Nat, Lib.index s p = (i : Int) := by
  have := Lib.index_ge s p
  by_cases h : Lib.index s p = -1
  · exact .inl h
  · exact .inr ⟨(Lib.index s p).toNat, by omega⟩
theorem count_is {p : List UInt8} (hp : p ≠ []) (b : List UInt8) : ∀ (k : Nat) (s : List UInt8), s.length ≤ k → Lib.count s p = (cntL p b s).1 := by
  intro k
  induction k with
  | zero =>
    intro s hs
    have : s = [] := List.eq_nil_of_length_eq_zero (by omega)
    subst this
    rcases ix_two [] p with h | ⟨i, h⟩
    · rw [Lib.count_miss h, cnt_nil]
    · have := ix_room hp h
      simp at this
  | succ k ih =>
    intro s hs
    rcases ix_two s p with h | ⟨i, h⟩
    · rw [Lib.count_miss h, cnt_miss hp b s h]
    · have hr := ix_room hp h
      rw [Lib.count_hit hp h, cnt_hit hp b s i h, ih _ (by omega)]
      dsimp only
      omega
theorem replK_is {p : List UInt8} (hp : p ≠ []) (b : List UInt8) : ∀ (k : Nat) (s : List UInt8), s.length ≤ k → Lib.replaceK p b (cntL p b s).1 s = (cntL p b s).2 := by
  intro k
  induction k with
  | zero =>
    intro s hs
    have : s = [] := List.eq_nil_of_length_eq_zero (by omega)
    subst this
    rw [cnt_nil]
    rfl
  | succ k ih =>
    intro s hs
    rcases ix_two s p with h | ⟨i, h⟩
    · rw [cnt_miss hp b s h]
      rfl
    · have hr := ix_room hp h
      rw [cnt_hit hp b s i h]
      dsimp only
      rw [Lib.replaceK_hit p b _ s i h, ih _ (by omega)]
theorem cnt_same {p : List UInt8} (hp : p ≠ []) : ∀ (k : Nat) (s : List UInt8), s.length ≤ k → (cntL p p s).2 = s := by
  intro k
  induction k with
  | zero =>
    intro s hs
    have : s = [] := List.eq_nil_of_length_eq_zero (by omega)
    subst this
    rw [cnt_nil]
  | succ k ih =>
    intro s hs
    cases s with
    | nil => rw [cnt_nil]
    | cons c s =>
      by_cases h1 : p.isPrefixOf (c :: s) = true
      · rw [cnt_yes h1 hp]
        have hl : 0 < p.length := List.length_pos_iff.2 hp
        dsimp only
        rw [ih _ (by rw [List.length_drop]; simp at hs ⊢; omega)]
        rw [List.isPrefixOf_iff_prefix] at h1
        obtain ⟨t, ht⟩ := h1
        rw [← ht]
        simp
      · rw [cnt_no (Bool.eq_false_iff.2 h1)]
        dsimp only
        rw [ih s (by simp at hs; omega)]
/-- How many are replaced does not hang on what stands in their place. -/
theorem cnt_fst {p : List UInt8} (hp : p ≠ []) (b b' s : List UInt8) : (cntL p b s).1 = (cntL p b' s).1 := by
  rw [← count_is hp b _ s (Nat.le_refl _), ← count_is hp b' _ s (Nat.le_refl _)]
theorem cnt_self {p : List UInt8} (hp : p ≠ []) (b : List UInt8) : cntL p b p = (1, b) := by
  have h : p.isPrefixOf p = true := by rw [List.isPrefixOf_iff_prefix]; exact List.prefix_rfl
  rw [cnt_yes h hp, List.drop_length, cnt_nil]
  simp
/-- A part that stands in a text that is no longer is the text. -/
theorem cnt_whole {p : List UInt8} (hp : p ≠ []) (b : List UInt8) {s : List UInt8} (hl : s.length = p.length) (h : 0 < (cntL p b s).1) : s = p := by
  rcases ix_two s p with h1 | ⟨i, h1⟩
  · rw [cnt_miss hp b s h1] at h; exact absurd h (Nat.lt_irrefl 0)
  · cases s with
    | nil => rw [cnt_nil] at h; exact absurd h (Nat.lt_irrefl 0)
    | cons c s =>
      by_cases h2 : p.isPrefixOf (c :: s) = true
      · rw [List.isPrefixOf_iff_prefix] at h2
        exact (h2.eq_of_length hl.symm).symm
      · exfalso
        have key : ∀ (k : Nat) (t : List UInt8), t.length ≤ k → t.length < p.length → (cntL p b t).1 = 0 := by
          intro k
          induction k with
          | zero => intro t ht _; have : t = [] := List.eq_nil_of_length_eq_zero (by omega); subst this; rw [cnt_nil]
          | succ k ih =>
            intro t ht hlt
            cases t with
            | nil => rw [cnt_nil]
            | cons d t =>
              have h3 : p.isPrefixOf (d :: t) = false := by
                rw [Bool.eq_false_iff]
                intro e
                rw [List.isPrefixOf_iff_prefix] at e
                have := e.length_le
                omega
              rw [cnt_no h3]
              dsimp only
              exact ih t (by simp at ht; omega) (by simp at hlt; omega)
        rw [cnt_no (Bool.eq_false_iff.2 h2)] at h
        dsimp only at h
        rw [key _ s (Nat.le_refl _) (by simp at hl; omega)] at h
        exact absurd h (Nat.lt_irrefl 0)
/-- The library's Replace of as many as there are. -/
theorem repl_all {p : List UInt8} (hp : p ≠ []) (b s : List UInt8) : Lib.replace s p b ((cntL p b s).1 : Int) = (cntL p b s).2 := by
  unfold Lib.replace
  by_cases h : (p == b) = true
  · rw [if_pos h]
    have := beq_iff_eq.1 h
    subst this
    rw [cnt_same hp _ s (Nat.le_refl _)]
  · rw [if_neg h]
    have e : Lib.replaceNum s p ((cntL p b s).1 : Int) = (cntL p b s).1 := by
      unfold Lib.replaceNum
      rw [count_is hp b _ s (Nat.le_refl _), if_neg (by omega)]
      rfl
    rw [e, replK_is hp b _ s (Nat.le_refl _)]
theorem repl_zero (p b s : List UInt8) : Lib.replace s p b 0 = s := by
  unfold Lib.replace
  by_cases h : (p == b) = true
  · rw [if_pos h]
  · rw [if_neg h]
    have e : Lib.replaceNum s p 0 = 0 := by
      unfold Lib.replaceNum
      rw [if_neg (by omega)]
      rfl
    rw [e]
    rfl
end Go.Proofs.YtomgjjngkffbbaaGreatDoor.fw
