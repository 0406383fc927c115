
/- The law FormatWide, from the letters on. Conditions: as each theorem says. -/
import Derived.Test.YtnelglmbckgbgaaGreatDoorFwd
namespace Go.Proofs.YtnelglmbckgbgaaGreatDoor.fw
open Go.RowKit Go.Sort
/-- Where the reading of letters stands. -/
def RL (l : List UInt8) (i : Nat) (n : Nat) (G : Bool) : Prop := (G = true ∧ l.isEmpty = false ∧ l.length ≤ 5 ∧ (l.take i).all ltr = true ∧ n = numL (l.take i) ∧ n + 1 ≤ 27 ^ i) ∨ (G = false ∧ gdL l = false)
theorem at_list {s : ByteArray} {i : Nat} (h : i < s.size) : s.toList[i]? = some s[i] := by
  rw [ByteArray.toList_eq, List.getElem?_eq_getElem (by simpa using h)]
  rfl
theorem rl_yes {l : List UInt8} {i n : Nat} {b : UInt8} (h : RL l i n true) (hb : l[i]? = some b) (hl : ltr b = true) : RL l (i + 1) (n * 26 + (b.toNat - 64)) true := by
  rcases h with ⟨-, h1, h2, h3, h4, h5⟩ | ⟨h, -⟩
  · have hi := (List.getElem?_eq_some_iff.1 hb).1
    have e : l.take (i + 1) = l.take i ++ [b] := by rw [List.take_succ_eq_append_getElem hi, (List.getElem?_eq_some_iff.1 hb).2]
    have h90 : b.toNat ≤ 90 := by unfold ltr at hl; simp at hl; exact hl.2
    refine .inl ⟨rfl, h1, h2, by rw [e, List.all_append, h3]; simp [hl], by rw [e, numL_snoc, h4], ?_⟩
    rw [Nat.pow_succ]
    omega
  · cases h
theorem rl_no {l : List UInt8} {i n : Nat} {b : UInt8} (hb : l[i]? = some b) (hl : ltr b = false) : RL l (i + 1) n false := by
  refine .inr ⟨rfl, ?_⟩
  have : l.all ltr = false := by
    rw [List.all_eq_false]
    exact ⟨b, List.mem_of_getElem? hb, by simp [hl]⟩
  unfold gdL
  rw [this]
  simp
theorem rl_end {l : List UInt8} {i n : Nat} {G : Bool} (h : RL l i n G) (hi : l.length = i ∨ G = false) : (G = true ∧ gdL l = true ∧ n = numL l ∧ n ≤ 100000000) ∨ (G = false ∧ gdL l = false) := by
  rcases h with ⟨h0, h1, h2, h3, h4, h5⟩ | h
  · rcases hi with hi | hi
    · rw [List.take_of_length_le (by omega)] at h3 h4
      refine .inl ⟨h0, ?_, h4, ?_⟩
      · unfold gdL; rw [h1, h3, decide_eq_true h2]; rfl
      · have e1 : (27 : Nat) ^ i ≤ 27 ^ 5 := Nat.pow_le_pow_right (by omega) (by omega)
        have e : (27 : Nat) ^ 5 = 14348907 := by decide
        omega
    · rw [h0] at hi; cases hi
  · exact .inr h
theorem rl_small {l : List UInt8} {i n : Nat} (h : RL l i n true) (hi : i ≤ l.length) : n ≤ 100000000 := by
  rcases h with ⟨-, -, h2, -, -, h5⟩ | ⟨h, -⟩
  · have : (27 : Nat) ^ i ≤ 27 ^ 5 := Nat.pow_le_pow_right (by omega) (by omega)
    have e : (27 : Nat) ^ 5 = 14348907 := by decide
    omega
  · cases h
end Go.Proofs.YtnelglmbckgbgaaGreatDoor.fw
