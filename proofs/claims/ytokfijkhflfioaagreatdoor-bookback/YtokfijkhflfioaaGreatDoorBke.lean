
/- What is whole of bytes, plain: how many bytes these are at most, that enough rounds are enough, and what holds throughout. Nothing is walked here. Conditions: as each theorem says. -/
import Derived.Test.YtokfijkhflfioaaGreatDoorBkd
namespace Go.Proofs.YtokfijkhflfioaaGreatDoor.fw
open Go.RowKit Go.Sort
theorem ent_some {b : List UInt8} {c r : UInt8} {t : List UInt8} (h : ent b = some (c, r, t)) : ∃ n d, b = c :: r :: n :: (t ++ (sm2 (c :: r :: n :: t) ++ d)) ∧ n.toNat = t.length := by
  unfold ent at h
  match b, h with
  | c' :: r' :: n :: b, h =>
    simp only at h
    by_cases hc : n.toNat + 2 ≤ b.length ∧ (b.drop n.toNat).take 2 = sm2 (c' :: r' :: n :: b.take n.toNat)
    · rw [if_pos hc] at h
      injection h with h
      injection h with h1 h
      injection h with h2 h3
      subst h1 h2 h3
      refine ⟨n, (b.drop n.toNat).drop 2, ?_, by rw [List.length_take]; omega⟩
      rw [← hc.2, List.take_append_drop, List.take_append_drop]
    · rw [if_neg hc] at h
      cases h
theorem ent_length {b : List UInt8} {c r : UInt8} {t : List UInt8} (h : ent b = some (c, r, t)) : t.length + 5 ≤ b.length ∧ t.length < 256 := by
  obtain ⟨n, d, rfl, hn⟩ := ent_some h
  have := n.toNat_lt
  simp [sm2]
  omega
theorem opn_le {S : Type} (f : S → UInt8 → UInt8 → List UInt8 → Option S) (k : Nat) : ∀ (s : S) (b : List UInt8), (opn f k s b).2 ≤ b.length := by
  induction k with
  | zero => intro s b; exact Nat.zero_le _
  | succ k ih =>
    intro s b
    unfold opn
    cases e : ent b with
    | none => exact Nat.zero_le _
    | some x =>
      obtain ⟨c, r, t⟩ := x
      simp only
      cases e2 : f s c r t with
      | none => exact Nat.zero_le _
      | some s' =>
        simp only
        have h1 := (ent_length e).1
        have h2 := ih s' (b.drop (t.length + 5))
        rw [List.length_drop] at h2
        omega
/-- Rounds that are enough are enough. -/
theorem opn_enough {S : Type} (f : S → UInt8 → UInt8 → List UInt8 → Option S) (k : Nat) : ∀ (s : S) (b : List UInt8), b.length ≤ k → opn f k s b = opn f b.length s b := by
  have key : ∀ (k k' : Nat) (s : S) (b : List UInt8), b.length ≤ k → b.length ≤ k' → opn f k s b = opn f k' s b := by
    intro k
    induction k with
    | zero =>
      intro k' s b hk hk'
      obtain rfl : b = [] := List.eq_nil_of_length_eq_zero (by omega)
      cases k' <;> rfl
    | succ k ih =>
      intro k' s b hk hk'
      cases k' with
      | zero =>
        obtain rfl : b = [] := List.eq_nil_of_length_eq_zero (by omega)
        rfl
      | succ k' =>
        unfold opn
        cases e : ent b with
        | none => rfl
        | some x =>
          obtain ⟨c, r, t⟩ := x
          simp only
          cases e2 : f s c r t with
          | none => rfl
          | some s' =>
            simp only
            have h1 := (ent_length e).1
            rw [ih k' s' (b.drop (t.length + 5)) (by rw [List.length_drop]; omega) (by rw [List.length_drop]; omega)]
  intro s b hk
  exact key k b.length s b hk (Nat.le_refl _)
/-- What holds at first, and behind each entry, holds at last. -/
theorem opn_inv {S : Type} (f : S → UInt8 → UInt8 → List UInt8 → Option S) (I : S → Nat → Prop) (hI : ∀ (s : S) (m : Nat) (c r : UInt8) (t : List UInt8) (s' : S), I s m → t.length < 256 → f s c r t = some s' → I s' (m + (t.length + 5))) (k : Nat) :
    ∀ (s : S) (b : List UInt8) (m : Nat), I s m → I (opn f k s b).1 (m + (opn f k s b).2) := by
  induction k with
  | zero => intro s b m h; exact h
  | succ k ih =>
    intro s b m h
    unfold opn
    cases e : ent b with
    | none => exact h
    | some x =>
      obtain ⟨c, r, t⟩ := x
      simp only
      cases e2 : f s c r t with
      | none => exact h
      | some s' =>
        simp only
        have h1 := ih s' (b.drop (t.length + 5)) _ (hI s m c r t s' h (ent_length e).2 e2)
        rw [← Nat.add_assoc]
        exact h1
/-- A sheet that is written entry by entry, each of which f takes. -/
theorem runs_back {S : Type} (f : S → UInt8 → UInt8 → List UInt8 → Option S) (st : List En → S) (l : List En) (h : ∀ (i : Nat) (x : En), l[i]? = some x → f (st (l.take i)) (lo8 x.1) (lo8 x.2.1) x.2.2.toList = some (st (l.take (i + 1)))) : runs f (st []) l = some (st l) := by
  have key : ∀ (l2 l1 : List En), l = l1 ++ l2 → runs f (st l1) l2 = some (st l) := by
    intro l2
    induction l2 with
    | nil => intro l1 e; rw [e, List.append_nil]; rfl
    | cons x l2 ih =>
      intro l1 e
      have hx : l[l1.length]? = some x := by rw [e]; simp
      have h1 := h _ x hx
      have e1 : l.take l1.length = l1 := by rw [e]; exact List.take_left
      have e2 : l.take (l1.length + 1) = l1 ++ [x] := by rw [List.take_add_one, e1, hx]; rfl
      rw [e1, e2] at h1
      unfold runs
      rw [h1]
      exact ih (l1 ++ [x]) (by rw [e]; simp)
  exact key l [] rfl
end Go.Proofs.YtokfijkhflfioaaGreatDoor.fw
