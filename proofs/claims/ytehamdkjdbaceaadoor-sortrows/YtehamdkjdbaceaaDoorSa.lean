
/- A table of values, as memory has it, and what may be wrong with it. Nothing is walked here. Conditions: as each theorem says. -/
import Derived.Test.YtehamdkjdbaceaaDoorSv
namespace Go.Proofs.YtehamdkjdbaceaaDoor.so
open Go.RowKit Go.Sort
/-- A value of a table. -/
structure Vl where
  k : Int
  n : Int
  s : ByteArray
def Vl.ok (x : Vl) : Bool := isVal x.k x.n x.s
def Vl.cmp (x y : Vl) : Int := cmpV x.k x.n x.s y.k y.n y.s
theorem Vl.cmp_neg (x y : Vl) : x.cmp y = -y.cmp x := cmpV_neg _ _ _ _ _ _
theorem Vl.cmp_bd (x y : Vl) : -1 ≤ x.cmp y ∧ x.cmp y ≤ 1 := cmpV_bd _ _ _ _ _ _
theorem Vl.cmp_trans {x y z : Vl} (h1 : x.cmp y ≤ 0) (h2 : y.cmp z ≤ 0) : x.cmp z ≤ 0 := cmpV_trans h1 h2
theorem Vl.cmp_zero {x y : Vl} (h : x.ok = true) (h' : y.ok = true) : x.cmp y = 0 ↔ x = y := by
  have := cmpV_zero (k := x.k) (n := x.n) (s := x.s) (k' := y.k) (n' := y.n) (s' := y.s) h h'
  obtain ⟨a, b, c⟩ := x
  obtain ⟨d, e, f⟩ := y
  simp only [Vl.mk.injEq]
  exact this
/-- A row of values lies in memory. -/
def VM (w : World) (p : Option Addr) (q : Nat) (v : Nat → Vl) : Prop :=
  q = 0 ∨ ∃ g o, p = some ⟨g, o, none⟩ ∧ g < w.heap.size ∧ ∀ i, i < q → w.cell? ⟨g, o + i * 3, none⟩ = some (.int .i64 (v i).k) ∧ w.cell? ⟨g, o + i * 3 + 1, none⟩ = some (.int .i64 (v i).n) ∧ w.cell? ⟨g, o + i * 3 + 2, none⟩ = some (.string (v i).s)
theorem VM.next {w w' : World} {p : Option Addr} {q : Nat} {v : Nat → Vl} (h : VM w p q v) (hb : Below w.heap.size w w') : VM w' p q v := by
  rcases h with h | ⟨g, o, h1, h2, h3⟩
  · exact .inl h
  · refine .inr ⟨g, o, h1, Nat.lt_of_lt_of_le h2 hb.size, fun i hi => ?_⟩
    rw [hb.cell (p := ⟨g, _, none⟩) h2, hb.cell (p := ⟨g, _, none⟩) h2, hb.cell (p := ⟨g, _, none⟩) h2]
    exact h3 i hi
/-- A table: how many rows, and of each where it lies, how long it is, its room and its values. -/
structure Tb where
  q : Nat
  P : Nat → Option Addr
  L : Nat → Nat
  C : Nat → Nat
  v : Nat → Nat → Vl
/-- A table lies in memory. -/
def TM (w : World) (p : Option Addr) (T : Tb) : Prop :=
  T.q = 0 ∨ ∃ g o, p = some ⟨g, o, none⟩ ∧ g < w.heap.size ∧ ∀ i, i < T.q → w.cell? ⟨g, o + i, none⟩ = some (.slice (T.P i) (T.L i) (T.C i)) ∧ VM w (T.P i) (T.L i) (T.v i)
theorem TM.next {w w' : World} {p : Option Addr} {T : Tb} (h : TM w p T) (hb : Below w.heap.size w w') : TM w' p T := by
  rcases h with h | ⟨g, o, h1, h2, h3⟩
  · exact .inl h
  · refine .inr ⟨g, o, h1, Nat.lt_of_lt_of_le h2 hb.size, fun i hi => ?_⟩
    rw [hb.cell (p := ⟨g, _, none⟩) h2]
    exact ⟨(h3 i hi).1, (h3 i hi).2.next hb⟩
/-- Numbers lie in memory. -/
def IM (w : World) (p : Option Addr) (n : Nat) (c : Nat → Int) : Prop :=
  n = 0 ∨ ∃ g o, p = some ⟨g, o, none⟩ ∧ g < w.heap.size ∧ ∀ i, i < n → w.cell? ⟨g, o + i, none⟩ = some (.int .i64 (c i))
theorem IM.next {w w' : World} {p : Option Addr} {n : Nat} {c : Nat → Int} (h : IM w p n c) (hb : Below w.heap.size w w') : IM w' p n c := by
  rcases h with h | ⟨g, o, h1, h2, h3⟩
  · exact .inl h
  · refine .inr ⟨g, o, h1, Nat.lt_of_lt_of_le h2 hb.size, fun i hi => ?_⟩
    rw [hb.cell (p := ⟨g, _, none⟩) h2]
    exact h3 i hi
/-- Keys lie in memory. -/
def KM (w : World) (p : Option Addr) (n : Nat) (c : Nat → Int) (d : Nat → Bool) : Prop :=
  n = 0 ∨ ∃ g o, p = some ⟨g, o, none⟩ ∧ g < w.heap.size ∧ ∀ i, i < n → w.cell? ⟨g, o + i * 2, none⟩ = some (.int .i64 (c i)) ∧ w.cell? ⟨g, o + i * 2 + 1, none⟩ = some (.bool (d i))
theorem KM.next {w w' : World} {p : Option Addr} {n : Nat} {c : Nat → Int} {d : Nat → Bool} (h : KM w p n c d) (hb : Below w.heap.size w w') : KM w' p n c d := by
  rcases h with h | ⟨g, o, h1, h2, h3⟩
  · exact .inl h
  · refine .inr ⟨g, o, h1, Nat.lt_of_lt_of_le h2 hb.size, fun i hi => ?_⟩
    rw [hb.cell (p := ⟨g, _, none⟩) h2, hb.cell (p := ⟨g, _, none⟩) h2]
    exact h3 i hi
/-- An error by its number. -/
def errV (e : Int) : Value := if e = 0 then .nilIface else .iface 46 (.int .i64 e)
theorem errV_0 : errV 0 = .nilIface := rfl
theorem errV_of {e : Int} (h : e ≠ 0) : errV e = .iface 46 (.int .i64 e) := by unfold errV; rw [if_neg h]
/-- A sound table. -/
structure Snd (T : Tb) : Prop where
  few : T.q ≤ 60
  thin : ∀ i, i < T.q → T.L i ≤ 12
  one : ∀ i, i < T.q → T.L i = T.L 0
  ok : ∀ i, i < T.q → ∀ j, j < T.L i → (T.v i j).ok = true
/-- What is wrong with a table. -/
def TF (T : Tb) (e : Int) : Prop :=
  (e = 4 ∧ 60 < T.q) ∨ (e = 4 ∧ T.q ≤ 60 ∧ ∃ i, i < T.q ∧ 12 < T.L i) ∨
  (e = 3 ∧ T.q ≤ 60 ∧ (∀ i, i < T.q → T.L i ≤ 12) ∧ ∃ i, i < T.q ∧ T.L i ≠ T.L 0) ∨
  (e = 1 ∧ T.q ≤ 60 ∧ (∀ i, i < T.q → T.L i ≤ 12) ∧ (∀ i, i < T.q → T.L i = T.L 0) ∧ ∃ i, i < T.q ∧ ∃ j, j < T.L i ∧ (T.v i j).ok = false) ∨
  (e = 0 ∧ Snd T)
theorem TF.one {T : Tb} {e e' : Int} (h : TF T e) (h' : TF T e') : e = e' := by
  rcases h with ⟨a, b⟩ | ⟨a, b, i, hi, c⟩ | ⟨a, b, c, i, hi, d⟩ | ⟨a, b, c, d, i, hi, j, hj, f⟩ | ⟨a, b⟩ <;> rcases h' with ⟨a', b'⟩ | ⟨a', b', i', hi', c'⟩ | ⟨a', b', c', i', hi', d'⟩ | ⟨a', b', c', d', i', hi', j', hj', f'⟩ | ⟨a', b'⟩
  all_goals first
    | omega
    | (have := b.few; omega)
    | (have := b'.few; omega)
    | (have := b.thin _ hi'; omega)
    | (have := b'.thin _ hi; omega)
    | (have := c _ hi'; omega)
    | (have := c' _ hi; omega)
    | (exact absurd (d _ hi') d')
    | (exact absurd (d' _ hi) d)
    | (exact absurd (b.one _ hi') d')
    | (exact absurd (b'.one _ hi) d)
    | (have := b.ok _ hi' _ hj'; rw [this] at f'; cases f')
    | (have := b'.ok _ hi _ hj; rw [this] at f; cases f)
theorem TF.zero {T : Tb} (h : TF T 0) : Snd T := by
  rcases h with ⟨a, b⟩ | ⟨a, b, i, hi, c⟩ | ⟨a, b, c, i, hi, d⟩ | ⟨a, b, c, d, i, hi, j, hj, f⟩ | ⟨a, b⟩
  · omega
  · omega
  · omega
  · omega
  · exact b
/-- How many columns a table has. -/
def wid (T : Tb) : Nat := if T.q = 0 then 12 else T.L 0
def colOk (T : Tb) (x : Int) : Prop := 0 ≤ x ∧ x < (wid T : Int)
/-- What is wrong with a table and its columns. -/
def CF (T : Tb) (n : Nat) (c : Nat → Int) (e : Int) : Prop :=
  (e ≠ 0 ∧ TF T e) ∨ (TF T 0 ∧ ((e = 4 ∧ 12 < n) ∨ (e = 1 ∧ n ≤ 12 ∧ ∃ i, i < n ∧ ¬ colOk T (c i)) ∨ (e = 0 ∧ n ≤ 12 ∧ ∀ i, i < n → colOk T (c i))))
theorem CF.one {T : Tb} {n : Nat} {c : Nat → Int} {e e' : Int} (h : CF T n c e) (h' : CF T n c e') : e = e' := by
  rcases h with ⟨a, b⟩ | ⟨b, h⟩ <;> rcases h' with ⟨a', b'⟩ | ⟨b', h'⟩
  · exact b.one b'
  · exact absurd (b.one b') a
  · exact absurd (b'.one b) a'
  · rcases h with ⟨a, h⟩ | ⟨a, h, i, hi, hc⟩ | ⟨a, h, hc⟩ <;> rcases h' with ⟨a', h'⟩ | ⟨a', h', i', hi', hc'⟩ | ⟨a', h', hc'⟩
    all_goals first
      | omega
      | exact absurd (hc _ hi') hc'
      | exact absurd (hc' _ hi) hc
theorem CF.zero {T : Tb} {n : Nat} {c : Nat → Int} (h : CF T n c 0) : Snd T ∧ n ≤ 12 ∧ ∀ i, i < n → colOk T (c i) := by
  rcases h with ⟨a, b⟩ | ⟨b, ⟨a, h⟩ | ⟨a, h, i, hi, hc⟩ | ⟨a, h, hc⟩⟩
  · exact absurd rfl a
  · omega
  · omega
  · exact ⟨b.zero, h, hc⟩
/-- A sound column of a row. -/
theorem Snd.col {T : Tb} (h : Snd T) {x : Int} (hx : colOk T x) {i : Nat} (hi : i < T.q) : 0 ≤ x ∧ x < (T.L i : Int) ∧ x.toNat < T.L i ∧ (x.toNat : Int) = x := by
  unfold colOk wid at hx
  rw [if_neg (by omega)] at hx
  rw [h.one i hi]
  omega
end Go.Proofs.YtehamdkjdbaceaaDoor.so
