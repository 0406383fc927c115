
/- What is whole of bytes, done one entry after the other, plain: what was written is read; a beginning of it reads as a beginning. Nothing is walked here. Conditions: as each theorem says. -/
import Derived.Test.YtokfijkhflfioaaGreatDoorBkc
namespace Go.Proofs.YtokfijkhflfioaaGreatDoor.fw
open Go.RowKit Go.Sort
/-- What is whole of bytes, as long as f takes it: what comes of it, and how many bytes these are. -/
def opn {S : Type} (f : S → UInt8 → UInt8 → List UInt8 → Option S) : Nat → S → List UInt8 → S × Nat
  | 0, s, _ => (s, 0)
  | k + 1, s, b =>
    match ent b with
    | none => (s, 0)
    | some (c, r, t) =>
      match f s c r t with
      | none => (s, 0)
      | some s' => ((opn f k s' (b.drop (t.length + 5))).1, t.length + 5 + (opn f k s' (b.drop (t.length + 5))).2)
abbrev En := Int × Int × ByteArray
def enO (x : En) : List UInt8 := enL x.1 x.2.1 x.2.2
def enS (l : List En) : List UInt8 := (l.map enO).flatten
theorem enS_cons (x : En) (l : List En) : enS (x :: l) = enO x ++ enS l := by simp [enS]
theorem enS_snoc (l : List En) (x : En) : enS (l ++ [x]) = enS l ++ enO x := by simp [enS]
theorem enO_length (x : En) : (enO x).length = x.2.2.size + 5 := enL_length _ _ _
def runs {S : Type} (f : S → UInt8 → UInt8 → List UInt8 → Option S) : S → List En → Option S
  | s, [] => some s
  | s, x :: l =>
    match f s (lo8 x.1) (lo8 x.2.1) x.2.2.toList with
    | none => none
    | some s' => runs f s' l
theorem opn_one {S : Type} (f : S → UInt8 → UInt8 → List UInt8 → Option S) (x : En) (hx : x.2.2.size < 256) {s s' : S} (h : f s (lo8 x.1) (lo8 x.2.1) x.2.2.toList = some s') (b : List UInt8) (k : Nat) :
    opn f (k + 1) s (enO x ++ b) = ((opn f k s' b).1, (enO x).length + (opn f k s' b).2) := by
  have hs : x.2.2.toList.length = x.2.2.size := size_list _
  have hd : (enO x ++ b).drop (x.2.2.toList.length + 5) = b := by
    rw [hs, ← enO_length x]
    exact List.drop_left
  show (match ent (enO x ++ b) with | none => (s, 0) | some (c, r, t) => _) = _
  unfold enO
  rw [ent_back _ _ _ hx]
  simp only [h]
  have hd2 : (enL x.1 x.2.1 x.2.2 ++ b).drop (x.2.2.toList.length + 5) = b := hd
  rw [hd2, enL_length, hs]
/-- What was written is read, whatever stands behind it. -/
theorem opn_all {S : Type} (f : S → UInt8 → UInt8 → List UInt8 → Option S) (l : List En) (hl : ∀ x ∈ l, x.2.2.size < 256) {s s' : S} (h : runs f s l = some s') (b : List UInt8) (k : Nat) :
    opn f (k + l.length) s (enS l ++ b) = ((opn f k s' b).1, (enS l).length + (opn f k s' b).2) := by
  induction l generalizing s with
  | nil =>
    obtain rfl := Option.some.inj h
    simp [enS]
  | cons x l ih =>
    unfold runs at h
    cases e : f s (lo8 x.1) (lo8 x.2.1) x.2.2.toList with
    | none => rw [e] at h; cases h
    | some s1 =>
      rw [e] at h
      have h2 := ih (fun y hy => hl y (List.mem_cons_of_mem _ hy)) h
      rw [enS_cons, List.append_assoc, List.length_cons, ← Nat.add_assoc, opn_one f x (hl x List.mem_cons_self) e, h2, List.length_append]
      simp [Nat.add_assoc]
/-- A beginning of what was written reads as a beginning. -/
theorem opn_cut {S : Type} (f : S → UInt8 → UInt8 → List UInt8 → Option S) (l : List En) (hl : ∀ x ∈ l, x.2.2.size < 256) {s s' : S} (h : runs f s l = some s') (n k : Nat) (hn : n ≤ (enS l).length) (hk : l.length ≤ k) :
    ∃ j s1, j ≤ l.length ∧ runs f s (l.take j) = some s1 ∧ opn f k s ((enS l).take n) = (s1, (enS (l.take j)).length) ∧ (enS (l.take j)).length ≤ n := by
  induction l generalizing s n k with
  | nil =>
    refine ⟨0, s, Nat.le_refl _, rfl, ?_, Nat.zero_le _⟩
    have : (enS []).take n = [] := by simp [enS]
    rw [this]
    cases k with
    | zero => rfl
    | succ k => rfl
  | cons x l ih =>
    unfold runs at h
    cases e : f s (lo8 x.1) (lo8 x.2.1) x.2.2.toList with
    | none => rw [e] at h; cases h
    | some s1 =>
      rw [e] at h
      cases k with
      | zero => simp at hk
      | succ k =>
        by_cases hx : n < x.2.2.size + 5
        · refine ⟨0, s, Nat.zero_le _, rfl, ?_, Nat.zero_le _⟩
          have ht : (enS (x :: l)).take n = (enL x.1 x.2.1 x.2.2).take n := by
            rw [enS_cons, List.take_append_of_le_length (by rw [enO_length]; omega)]
            rfl
          rw [ht]
          show (match ent _ with | none => (s, 0) | some (c, r, t) => _) = _
          rw [ent_short _ _ _ (hl x List.mem_cons_self) n hx]
          rfl
        · have hlen := enO_length x
          have ht : (enS (x :: l)).take n = enO x ++ (enS l).take (n - (enO x).length) := by
            rw [enS_cons, List.take_append, List.take_of_length_le (by omega)]
          rw [enS_cons, List.length_append] at hn
          obtain ⟨j, s2, h1, h2, h3, h4⟩ := ih (fun y hy => hl y (List.mem_cons_of_mem _ hy)) h (n - (enO x).length) k (by omega) (by simp at hk; omega)
          refine ⟨j + 1, s2, by simp; omega, ?_, ?_, ?_⟩
          · rw [List.take_succ_cons]
            unfold runs
            rw [e]
            exact h2
          · rw [ht, opn_one f x (hl x List.mem_cons_self) e, h3, List.take_succ_cons, enS_cons, List.length_append]
          · rw [List.take_succ_cons, enS_cons, List.length_append]
            omega
end Go.Proofs.YtokfijkhflfioaaGreatDoor.fw
