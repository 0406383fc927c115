
/- Wants, as memory has them, and what may be wrong with them; which a row meets. Nothing is walked here. Conditions: as each theorem says. -/
import Derived.Test.YtjbdpcnebilmbaaGreatDoorSw
namespace Go.Proofs.YtjbdpcnebilmbaaGreatDoor.so
open Go.RowKit Go.Sort
/-- A want: a column, an operator, a value. -/
structure Wt where
  c : Int
  o : Int
  v : Vl
/-- Wants lie in memory. -/
def WM (w : World) (p : Option Addr) (n : Nat) (f : Nat → Wt) : Prop :=
  n = 0 ∨ ∃ g o, p = some ⟨g, o, none⟩ ∧ g < w.heap.size ∧ ∀ i, i < n → w.cell? ⟨g, o + i * 5, none⟩ = some (.int .i64 (f i).c) ∧ w.cell? ⟨g, o + i * 5 + 1, none⟩ = some (.int .i64 (f i).o) ∧ w.cell? ⟨g, o + i * 5 + 2, none⟩ = some (.int .i64 (f i).v.k) ∧ w.cell? ⟨g, o + i * 5 + 3, none⟩ = some (.int .i64 (f i).v.n) ∧ w.cell? ⟨g, o + i * 5 + 4, none⟩ = some (.string (f i).v.s)
theorem WM.next {w w' : World} {p : Option Addr} {n : Nat} {f : Nat → Wt} (h : WM w p n f) (hb : Below w.heap.size w w') : WM w' p n f := by
  rcases h with h | ⟨g, o, h1, h2, h3⟩
  · exact .inl h
  · refine .inr ⟨g, o, h1, Nat.lt_of_lt_of_le h2 hb.size, fun i hi => ?_⟩
    rw [hb.cell (p := ⟨g, _, none⟩) h2, hb.cell (p := ⟨g, _, none⟩) h2, hb.cell (p := ⟨g, _, none⟩) h2, hb.cell (p := ⟨g, _, none⟩) h2, hb.cell (p := ⟨g, _, none⟩) h2]
    exact h3 i hi
/-- A sound want. -/
def wOk (T : Tb) (x : Wt) : Prop := colOk T x.c ∧ x.v.ok = true ∧ 1 ≤ x.o ∧ x.o ≤ 6
/-- What is wrong with a table and wants. -/
def WF (T : Tb) (n : Nat) (f : Nat → Wt) (e : Int) : Prop :=
  (e ≠ 0 ∧ TF T e) ∨ (TF T 0 ∧ ((e = 4 ∧ 12 < n) ∨ (e = 1 ∧ n ≤ 12 ∧ ∃ i, i < n ∧ ¬ wOk T (f i)) ∨ (e = 0 ∧ n ≤ 12 ∧ ∀ i, i < n → wOk T (f i))))
theorem WF.one {T : Tb} {n : Nat} {f : Nat → Wt} {e e' : Int} (h : WF T n f e) (h' : WF T n f e') : e = e' := by
  rcases h with ⟨a, b⟩ | ⟨b, h⟩ <;> rcases h' with ⟨a', b'⟩ | ⟨b', h'⟩
  · exact b.one b'
  · exact absurd (b.one b') a
  · exact absurd (b'.one b) a'
  · rcases h with ⟨a, h⟩ | ⟨a, h, i, hi, hc⟩ | ⟨a, h, hc⟩ <;> rcases h' with ⟨a', h'⟩ | ⟨a', h', i', hi', hc'⟩ | ⟨a', h', hc'⟩
    all_goals first
      | omega
      | exact absurd (hc _ hi') hc'
      | exact absurd (hc' _ hi) hc
theorem WF.zero {T : Tb} {n : Nat} {f : Nat → Wt} (h : WF T n f 0) : Snd T ∧ n ≤ 12 ∧ ∀ i, i < n → wOk T (f i) := by
  rcases h with ⟨a, b⟩ | ⟨b, ⟨a, h⟩ | ⟨a, h, i, hi, hc⟩ | ⟨a, h, hc⟩⟩
  · exact absurd rfl a
  · omega
  · omega
  · exact ⟨b.zero, h, hc⟩
/-- What an operator says of how two values stand. -/
def says (o c : Int) : Bool := if o = 1 then c == 0 else if o = 2 then c != 0 else if o = 3 then decide (c < 0) else if o = 4 then decide (c ≤ 0) else if o = 5 then decide (0 < c) else decide (0 ≤ c)
/-- How two values stand, what is blank beside something. -/
def Vl.beside (x y : Vl) : Int := cmpB x.k x.n x.s y.k y.n y.s
/-- Does a value meet an operator and a value? -/
def meet (x : Vl) (o : Int) (y : Vl) : Bool := !(x.k == 4) && !(y.k == 4) && says o (x.beside y)
/-- What Two answers at a test. -/
def twoV (x : Vl) (o : Int) (y : Vl) : Vl := if x.k = 4 then x else if y.k = 4 then y else ⟨3, b2n (says o (x.beside y)), nul⟩
theorem twoV_meet (x : Vl) (o : Int) (y : Vl) : ((twoV x o y).k == 3 && (twoV x o y).n == 1) = meet x o y := by
  unfold twoV meet
  by_cases h : x.k = 4
  · rw [if_pos h]; simp [h]
  · rw [if_neg h]
    by_cases h' : y.k = 4
    · rw [if_pos h']; simp [h']
    · rw [if_neg h']
      cases says o (x.beside y) <;> simp [h, h', b2n]
/-- How many of the first so many wants a row meets. -/
def mets (r : Nat → Vl) (f : Nat → Wt) : Nat → Nat
  | 0 => 0
  | n + 1 => if meet (r (f n).c.toNat) (f n).o (f n).v = true then mets r f n + 1 else mets r f n
theorem mets_le (r : Nat → Vl) (f : Nat → Wt) (n : Nat) : mets r f n ≤ n := by
  induction n with
  | zero => exact Nat.le_refl _
  | succ n ih => unfold mets; split <;> omega
theorem mets_all {r : Nat → Vl} {f : Nat → Wt} {n : Nat} : mets r f n = n ↔ ∀ i, i < n → meet (r (f i).c.toNat) (f i).o (f i).v = true := by
  induction n with
  | zero => simp [mets]
  | succ n ih =>
    have hle := mets_le r f n
    unfold mets
    split
    · next h =>
      constructor
      · intro e i hi
        by_cases hin : i = n
        · subst hin; exact h
        · exact ih.1 (by omega) i (by omega)
      · intro hall; rw [ih.2 (fun i hi => hall i (by omega))]
    · next h =>
      constructor
      · intro e; omega
      · intro hall; exact absurd (hall n (by omega)) h
theorem mets_pos {r : Nat → Vl} {f : Nat → Wt} {n : Nat} : 0 < mets r f n ↔ ∃ i, i < n ∧ meet (r (f i).c.toNat) (f i).o (f i).v = true := by
  induction n with
  | zero => simp [mets]
  | succ n ih =>
    unfold mets
    split
    · next h => exact ⟨fun _ => ⟨n, by omega, h⟩, fun _ => by omega⟩
    · next h =>
      rw [ih]
      constructor
      · rintro ⟨i, hi, e⟩; exact ⟨i, by omega, e⟩
      · rintro ⟨i, hi, e⟩
        refine ⟨i, ?_, e⟩
        by_cases hin : i = n
        · subst hin; exact absurd e h
        · omega
end Go.Proofs.YtjbdpcnebilmbaaGreatDoor.so
