
/- The digits of a number, read back out of what a code shows: plain. Nothing is walked here. -/
import Derived.Test.YtnelglmbckgbgaaGreatDoorFxd
namespace Go.Proofs.YtnelglmbckgbgaaGreatDoor.fw
open Go.RowKit Go.Sort
/-- Noughts ahead left out. -/
def strip : List UInt8 → List UInt8
  | [] => []
  | [c] => [c]
  | c :: d :: r => if c = 48 then strip (d :: r) else c :: d :: r
theorem strip_zero {l : List UInt8} (h : l ≠ []) : strip (48 :: l) = strip l := by
  cases l with
  | nil => exact absurd rfl h
  | cons d r => simp [strip]
theorem strip_other {c : UInt8} (h : c ≠ 48) (l : List UInt8) : strip (c :: l) = c :: l := by
  cases l with
  | nil => rfl
  | cons d r => simp [strip, h]
theorem strip_rep (m : Nat) {l : List UInt8} (h : l ≠ []) : strip (List.replicate m 48 ++ l) = strip l := by
  induction m with
  | zero => rfl
  | succ m ih =>
    rw [List.replicate_succ, List.cons_append, strip_zero (by simp [h])]
    exact ih
theorem dec_first (u : Nat) (h : 0 < u) : ∃ c r, Lib.decDigits u = c :: r ∧ c ≠ 48 := by
  induction u using Nat.strongRecOn with
  | _ u ih =>
    by_cases h10 : u < 10
    · refine ⟨UInt8.ofNat (48 + u), [], Lib.decDigits_one h10, ?_⟩
      intro e
      have := congrArg UInt8.toNat e
      rw [UInt8.toNat_ofNat', Nat.mod_eq_of_lt (by omega)] at this
      simp at this
      omega
    · obtain ⟨c, r, e, hc⟩ := ih (u / 10) (by omega) (by omega)
      refine ⟨c, r ++ [UInt8.ofNat (48 + u % 10)], ?_, hc⟩
      rw [Lib.decDigits, dif_neg h10, e]
      rfl
theorem strip_dec (u : Nat) : strip (Lib.decDigits u) = Lib.decDigits u := by
  rcases Nat.eq_zero_or_pos u with rfl | h
  · rw [Lib.decDigits_one (by omega)]; rfl
  · obtain ⟨c, r, e, hc⟩ := dec_first u h
    rw [e, strip_other hc]
theorem cs_len3 (l : List UInt8) : (cs false l).length = l.length + l.length / 3 := by
  induction l with
  | nil => rfl
  | cons c r ih =>
    simp only [cs, List.length_append, List.length_cons, ih]
    split
    · rename_i h; simp; omega
    · rename_i h
      have h3 : (r.length + 1) % 3 ≠ 0 := fun e => h ⟨by trivial, e⟩
      simp
      omega
theorem cs_nil {l : List UInt8} (h : l ≠ []) (f : Bool) : cs f l ≠ [] := by
  cases l with
  | nil => exact absurd rfl h
  | cons c r => simp [cs]
def csB (c f : Bool) (Q : List UInt8) : List UInt8 := if c = true then cs f Q else Q
/-- How far a shown number is read. -/
def LR (c : Bool) (pl : Nat) (sd sg D : List UInt8) (S : List UInt8) (i dn : Nat) (G : Bool) (b : List UInt8) : Prop :=
  ∃ (Q : List UInt8) (f : Bool), S.drop i = csB c f Q ∧ (∀ x ∈ Q, x ≠ 44) ∧ dn + Q.length = pl ∧ sd = sg ++ D ∧ ((G = false ∧ b = sg ∧ Q ≠ [] ∧ strip Q = D) ∨ (G = true ∧ b ++ Q = sd))
theorem lr_small {c : Bool} {pl : Nat} {sd sg D S : List UInt8} {i dn : Nat} {G : Bool} {b : List UInt8} (h : LR c pl sd sg D S i dn G b) : b.length ≤ sd.length ∧ dn ≤ pl := by
  obtain ⟨Q, f, h1, h2, h3, h4, h5⟩ := h
  refine ⟨?_, by omega⟩
  rcases h5 with ⟨-, rfl, -⟩ | ⟨-, h6⟩
  · rw [h4]; simp
  · rw [← h6]; simp
theorem lr_end {c : Bool} {pl : Nat} {sd sg D S : List UInt8} {i dn : Nat} {G : Bool} {b : List UInt8} (h : LR c pl sd sg D S i dn G b) (hi : S.length ≤ i) : b = sd ∧ dn = pl := by
  obtain ⟨Q, f, h1, h2, h3, h4, h5⟩ := h
  rw [List.drop_eq_nil_iff.2 hi] at h1
  have hq : Q = [] := by
    cases Q with
    | nil => rfl
    | cons q Q =>
      exfalso
      unfold csB at h1
      split at h1
      · exact cs_nil (by simp) f h1.symm
      · cases h1
  subst hq
  rcases h5 with ⟨-, -, h6, -⟩ | ⟨-, h6⟩
  · exact absurd rfl h6
  · exact ⟨by simpa using h6, by simpa using h3⟩
/-- One byte further: a comma where one may stand, or a digit. -/
theorem lr_step {c : Bool} {pl : Nat} {sd sg D S : List UInt8} {i dn : Nat} {G : Bool} {b : List UInt8} {x : UInt8} (h : LR c pl sd sg D S i dn G b) (hx : S[i]? = some x) :
    (x = 44 ∧ c = true ∧ (S.length - i) % 4 = 0 ∧ LR c pl sd sg D S (i + 1) dn G b) ∨
    (x ≠ 44 ∧ (x ≠ 48 → LR c pl sd sg D S (i + 1) (dn + 1) true (b ++ [x])) ∧ (i + 1 = S.length → LR c pl sd sg D S (i + 1) (dn + 1) true (b ++ [x])) ∧ (G = true → LR c pl sd sg D S (i + 1) (dn + 1) true (b ++ [x])) ∧ (G = false → x = 48 → i + 1 ≠ S.length → LR c pl sd sg D S (i + 1) (dn + 1) false b)) := by
  obtain ⟨Q, f, h1, h2, h3, h4, h5⟩ := h
  have hi : i < S.length := (List.getElem?_eq_some_iff.1 hx).1
  have hd : S.drop i = x :: S.drop (i + 1) := by
    rw [List.drop_eq_getElem_cons hi]
    congr 1
    exact (List.getElem?_eq_some_iff.1 hx).2
  have hlen : (S.drop i).length = S.length - i := List.length_drop
  cases Q with
  | nil =>
    exfalso
    rw [hd] at h1
    unfold csB at h1
    split at h1 <;> simp [cs] at h1
  | cons q Q =>
    by_cases hcm : c = true ∧ f = false ∧ (Q.length + 1) % 3 = 0
    · obtain ⟨rfl, rfl, h6⟩ := hcm
      have e1 : csB true false (q :: Q) = 44 :: csB true true (q :: Q) := by
        simp only [csB, if_true, cs]
        rw [if_pos ⟨by trivial, h6⟩, if_neg (fun z => by simp at z)]
        rfl
      have h7 : (S.drop i).length = (q :: Q).length + (q :: Q).length / 3 := by
        rw [h1]
        show (cs false (q :: Q)).length = _
        exact cs_len3 _
      rw [hd, e1] at h1
      injection h1 with hx1 hx2
      refine .inl ⟨hx1, rfl, ?_, ⟨q :: Q, true, hx2, h2, h3, h4, h5⟩⟩
      rw [← hlen, h7]
      simp only [List.length_cons]
      omega
    · have e1 : csB c f (q :: Q) = q :: csB c false Q := by
        unfold csB
        split
        · rename_i hc
          simp only [cs]
          rw [if_neg (fun z => hcm ⟨hc, z⟩)]
          rfl
        · rfl
      have hl1 : (S.drop i).length = 1 + (csB c false Q).length := by rw [h1, e1]; simp; omega
      rw [hd, e1] at h1
      injection h1 with hx1 hx2
      subst hx1
      have hq44 : x ≠ 44 := h2 x (by simp)
      have h2' : ∀ y ∈ Q, y ≠ 44 := fun y hy => h2 y (by simp [hy])
      have h3' : dn + 1 + Q.length = pl := by simp only [List.length_cons] at h3; omega
      have hend : i + 1 = S.length → Q = [] := by
        intro e
        cases Q with
        | nil => rfl
        | cons q' Q' =>
          exfalso
          have : 0 < (csB c false (q' :: Q')).length := by
            unfold csB
            split
            · exact List.length_pos_iff.2 (cs_nil (by simp) _)
            · simp
          omega
      refine .inr ⟨hq44, ?_, ?_, ?_, ?_⟩
      · intro hne
        refine ⟨Q, false, hx2, h2', h3', h4, .inr ⟨rfl, ?_⟩⟩
        rcases h5 with ⟨-, rfl, -, h6⟩ | ⟨-, h6⟩
        · rw [strip_other hne] at h6; rw [h4, ← h6]; simp
        · rw [← h6]; simp
      · intro he
        have hQ := hend he
        subst hQ
        refine ⟨[], false, hx2, h2', h3', h4, .inr ⟨rfl, ?_⟩⟩
        rcases h5 with ⟨-, rfl, -, h6⟩ | ⟨-, h6⟩
        · rw [h4, ← h6]; simp [strip]
        · rw [← h6]; simp
      · intro hG
        refine ⟨Q, false, hx2, h2', h3', h4, .inr ⟨rfl, ?_⟩⟩
        rcases h5 with ⟨hG2, -⟩ | ⟨-, h6⟩
        · rw [hG] at hG2; cases hG2
        · rw [← h6]; simp
      · intro hG hx48 hne
        have hQ : Q ≠ [] := by
          rintro rfl
          apply hne
          have : (csB c false []).length = 0 := by unfold csB; split <;> rfl
          omega
        rcases h5 with ⟨-, rfl, -, h6⟩ | ⟨hG2, -⟩
        · refine ⟨Q, false, hx2, h2', h3', h4, .inl ⟨rfl, rfl, hQ, ?_⟩⟩
          rw [hx48, strip_zero hQ] at h6
          exact h6
        · rw [hG] at hG2; cases hG2
/-- The code of the law. -/
def sgC (c : Bool) (z : Nat) : List UInt8 := (if c = true then [35, 44] else []) ++ List.replicate z 48
def sgK (c : Bool) (z : Nat) : LK := ⟨[], c, z, 0, []⟩
theorem dropW_rep (z : Nat) : (List.replicate z (48 : UInt8)).dropWhile (· == 48) = [] := by
  induction z with
  | zero => rfl
  | succ z ih => rw [List.replicate_succ, List.dropWhile_cons]; simp only [beq_self_eq_true, if_true]; exact ih
theorem rc_sgC (c : Bool) (z : Nat) (h1 : 1 ≤ z) (h2 : z ≤ 20) : rcL (sgC c z) = some (sgK c z) := by
  have hz : czL (List.replicate z 48) = (z, []) := by
    unfold czL
    rw [dropW_rep]
    simp
  obtain ⟨y, rfl⟩ : ∃ y, z = y + 1 := ⟨z - 1, by omega⟩
  cases c with
  | true =>
    have e0 : sgC true (y + 1) = 35 :: 44 :: List.replicate (y + 1) 48 := rfl
    have e1 : cqL (sgC true (y + 1)) = ([], sgC true (y + 1)) := by unfold cqL; rw [if_neg (by rw [e0]; simp)]
    have e2 : ccL (sgC true (y + 1)) = (true, List.replicate (y + 1) 48) := by
      unfold ccL
      rw [if_pos (by rw [e0]; simp [Lib.hasPrefix, List.isPrefixOf])]
      rfl
    unfold rcL
    rw [if_neg (by rw [e0]; simp; omega), e1]
    simp only [e2, hz]
    have e3 : cpL [] = (0, []) := rfl
    have e4 : cbL [] = ([], []) := rfl
    simp only [e3, e4]
    rw [if_neg (by simp)]
    rfl
  | false =>
    have e0 : sgC false (y + 1) = List.replicate (y + 1) 48 := rfl
    have e1 : cqL (sgC false (y + 1)) = ([], sgC false (y + 1)) := by unfold cqL; rw [if_neg (by rw [e0, List.replicate_succ]; simp)]
    have e2 : ccL (sgC false (y + 1)) = (false, List.replicate (y + 1) 48) := by
      unfold ccL
      rw [if_neg (by rw [e0, List.replicate_succ]; simp [Lib.hasPrefix, List.isPrefixOf])]
      rfl
    unfold rcL
    rw [if_neg (by rw [e0]; simp; omega), e1]
    simp only [e2, hz]
    have e3 : cpL [] = (0, []) := rfl
    have e4 : cbL [] = ([], []) := rfl
    simp only [e3, e4]
    rw [if_neg (by simp)]
    rfl
def sgL (n : Int) : List UInt8 := if n < 0 then [45] else []
theorem show_sg (c : Bool) (z : Nat) (n : Int) : showL (sgK c z) n = sgL n ++ csB c true (padL (sgK c z) n) := by
  have e1 : wholeL (sgK c z) n = padL (sgK c z) n := by unfold wholeL; rw [show (sgK c z).places = 0 from rfl, Nat.sub_zero, List.take_length]
  have e2 : partsL (sgK c z) n = [] := by unfold partsL; rw [show (sgK c z).places = 0 from rfl, Nat.sub_zero, List.drop_length]
  unfold showL sgL csB
  rw [e1, e2]
  simp [sgK]
  rfl
theorem itoa_is (n : Int) : Lib.itoa n = sgL n ++ Lib.decDigits n.natAbs := by
  unfold Lib.itoa sgL
  split
  · rfl
  · rw [List.nil_append]; congr 1; omega
theorem lr_start (c : Bool) (z : Nat) (n : Int) : LR c (padL (sgK c z) n).length (Lib.itoa n) (sgL n) (Lib.decDigits n.natAbs) (showL (sgK c z) n) (sgL n).length 0 false (sgL n) := by
  refine ⟨padL (sgK c z) n, true, ?_, ?_, by omega, itoa_is n, .inl ⟨rfl, rfl, ?_, ?_⟩⟩
  · rw [show_sg, List.drop_left]
  · intro x hx
    unfold padL at hx
    rcases List.mem_append.1 hx with h | h
    · rw [(List.mem_replicate.1 h).2]; decide
    · intro e
      have := dec_digit _ x h
      rw [e] at this
      simp at this
  · intro e
    have := dec_pos n.natAbs
    have h2 := congrArg List.length e
    unfold padL at h2
    simp at h2
    rw [h2.2] at this
    simp at this
  · unfold padL
    rw [strip_rep _ (by intro e; have := dec_pos n.natAbs; rw [e] at this; simp at this), strip_dec]
theorem pad_z (c : Bool) (z : Nat) (n : Int) : z ≤ (padL (sgK c z) n).length := by
  have := (padL_len (sgK c z) n).2.2
  have e : (sgK c z).digits = z := rfl
  omega
theorem sg_fact : rcL [34, 36, 34, 35, 44, 48, 46, 48, 48] = some ⟨[36], true, 1, 2, []⟩ ∧ showL ⟨[36], true, 1, 2, []⟩ (-1234567) = [45, 36, 49, 50, 44, 51, 52, 53, 46, 54, 55] := by
  constructor
  · rfl
  · decide +kernel
end Go.Proofs.YtnelglmbckgbgaaGreatDoor.fw
