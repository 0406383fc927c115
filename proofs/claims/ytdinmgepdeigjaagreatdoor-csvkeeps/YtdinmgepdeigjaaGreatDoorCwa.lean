
/- A text as rows: plain: a machine of one byte at a time; what is written is read as it was. Nothing is walked here. -/
import Derived.Test.YtdinmgepdeigjaaGreatDoorCvb
namespace Go.Proofs.YtdinmgepdeigjaaGreatDoor.fw
open Go.RowKit Go.Sort
abbrev RdR := List (List (List UInt8)) × Nat × Int
/-- The machine: st 0 a field begins, 1 within one, 2 within marks, 3 behind a mark. -/
def mc (st : Nat) (out : List (List (List UInt8))) (row : List (List UInt8)) (f : List UInt8) (i : Nat) : List UInt8 → RdR
  | [] => if st = 2 then ([], i, 2) else if st = 0 ∧ row = [] then (out, 0, 0) else (out ++ [row ++ [f]], 0, 0)
  | c :: r =>
    if st = 2 then (if c = 34 then mc 3 out row f (i + 1) r else mc 2 out row (f ++ [c]) (i + 1) r)
    else if c = 10 then mc 0 (out ++ [row ++ [f]]) [] [] (i + 1) r
    else if c = 13 ∧ r.head? = some 10 then mc st out row f (i + 1) r
    else if c = 44 then mc 0 out (row ++ [f]) [] (i + 1) r
    else if c = 34 then (if st = 0 then mc 2 out row f (i + 1) r else if st = 1 then ([], i, 2) else mc 2 out row (f ++ [34]) (i + 1) r)
    else if st = 3 then ([], i, 2) else mc 1 out row (f ++ [c]) (i + 1) r
/-- What a text is read as: rows, place, fault. -/
def rdL (s : List UInt8) : RdR := if 4000 < s.length then ([], 0, 4) else mc 0 [] [] [] 0 s
/-- What ends a field: how many bytes. -/
def enL : List UInt8 → Nat
  | 44 :: _ => 1
  | 10 :: _ => 1
  | 13 :: 10 :: _ => 2
  | _ => 0
section
variable (out : List (List (List UInt8))) (row : List (List UInt8))
/-- Bytes within marks are read. -/
theorem mc_in (f g : List UInt8) (i : Nat) (r : List UInt8) : mc 2 out row f i (esq g ++ 34 :: r) = mc 3 out row (f ++ g) (i + (esq g).length + 1) r := by
  induction g generalizing f i with
  | nil => simp [esq, mc]
  | cons c g ih =>
    have e : esq (c :: g) = (if c = 34 then [34, 34] else [c]) ++ esq g := by simp [esq]
    rw [e]
    by_cases hc : c = 34
    · subst hc
      rw [if_pos rfl]
      simp only [List.cons_append, List.nil_append]
      rw [mc, if_pos rfl, if_pos rfl, mc, if_neg (by decide), if_neg (by decide), if_neg (fun h => absurd h.1 (by decide)), if_neg (by decide), if_pos rfl, if_neg (by decide), if_neg (by decide), ih]
      simp only [List.append_assoc, List.cons_append, List.nil_append, List.length_cons]
      congr 1
      omega
    · rw [if_neg hc]
      simp only [List.cons_append, List.nil_append]
      rw [mc, if_pos rfl, if_neg hc, ih]
      simp only [List.append_assoc, List.cons_append, List.nil_append, List.length_cons]
      congr 1
      omega
theorem spc_not {c : UInt8} (h : spc c = false) : c ≠ 44 ∧ c ≠ 34 ∧ c ≠ 10 ∧ c ≠ 13 := by
  unfold spc at h
  simp only [Bool.or_eq_false_iff, beq_eq_false_iff_ne] at h
  exact ⟨h.1.1.1, h.1.1.2, h.1.2, h.2⟩
/-- Plain bytes are read. -/
theorem mc_plain (f g : List UInt8) (i : Nat) (r : List UInt8) (hg : g.any spc = false) : mc 1 out row f i (g ++ r) = mc 1 out row (f ++ g) (i + g.length) r := by
  induction g generalizing f i with
  | nil => simp
  | cons c g ih =>
    rw [List.any_cons, Bool.or_eq_false_iff] at hg
    obtain ⟨h1, h2, h3, h4⟩ := spc_not hg.1
    rw [List.cons_append, mc, if_neg (by decide), if_neg h3, if_neg (fun h => h4 h.1), if_neg h1, if_neg h2, if_neg (by decide), ih _ _ hg.2, List.append_assoc, List.length_cons]
    have e2 : i + 1 + g.length = i + (g.length + 1) := by omega
    rw [e2]
    rfl
/-- A written field is read. -/
theorem mc_fld (f : List UInt8) (one : Bool) (i : Nat) (r : List UInt8) : ∃ t, (t = 0 ∨ t = 1 ∨ t = 3) ∧ (t = 0 → fld f one = [] ∧ one = false) ∧ mc 0 out row [] i (fld f one ++ r) = mc t out row f (i + (fld f one).length) r := by
  unfold fld
  by_cases h : qfd f one = true
  · rw [if_pos h]
    refine ⟨3, .inr (.inr rfl), fun h => absurd h (by decide), ?_⟩
    have e : [34] ++ esq f ++ [34] ++ r = 34 :: (esq f ++ 34 :: r) := by simp
    rw [e, mc, if_neg (by decide), if_neg (by decide), if_neg (fun h => absurd h.1 (by decide)), if_neg (by decide), if_pos rfl, if_pos rfl, mc_in]
    simp only [List.nil_append, List.length_append, List.length_cons, List.length_nil]
    congr 1
    omega
  · rw [if_neg h]
    have hq : f.any spc = false ∧ (f = [] → one = false) := by
      unfold qfd at h
      rw [Bool.not_eq_true, Bool.or_eq_false_iff] at h
      refine ⟨h.2, fun hf => ?_⟩
      subst hf
      simpa using h.1
    have ee : esq f = f := by
      have := hq.1
      clear h hq
      induction f with
      | nil => rfl
      | cons c f ih =>
        rw [List.any_cons, Bool.or_eq_false_iff] at this
        have e : esq (c :: f) = (if c = 34 then [34, 34] else [c]) ++ esq f := by simp [esq]
        rw [e, if_neg (spc_not this.1).2.1, ih this.2]
        rfl
    rw [ee]
    cases f with
    | nil => exact ⟨0, .inl rfl, fun _ => ⟨rfl, hq.2 rfl⟩, by simp⟩
    | cons c f =>
      have := hq.1
      rw [List.any_cons, Bool.or_eq_false_iff] at this
      obtain ⟨h1, h2, h3, h4⟩ := spc_not this.1
      refine ⟨1, .inr (.inl rfl), fun h => absurd h (by decide), ?_⟩
      rw [List.cons_append, mc, if_neg (by decide), if_neg h3, if_neg (fun h => h4 h.1), if_neg h1, if_neg h2, if_neg (by decide)]
      rw [List.nil_append, mc_plain out row [c] f (i + 1) r this.2, List.length_cons]
      have e2 : i + 1 + f.length = i + (f.length + 1) := by omega
      rw [e2]
      rfl
/-- Written fields are read. -/
theorem mc_fds (one : Bool) (n : Nat) (q : List (List UInt8)) (hn : q.length = n) (f : List UInt8) (i : Nat) (r : List UInt8) :
    ∃ t, (t = 0 ∨ t = 1 ∨ t = 3) ∧ mc 0 out [] [] i (fds one (q ++ [f]) ++ r) = mc t out q f (i + (fds one (q ++ [f])).length) r ∧ (t = 0 → q = [] → one = false) := by
  induction n generalizing q f r with
  | zero =>
    have e : q = [] := List.eq_nil_of_length_eq_zero hn
    subst e
    have e : fds one ([] ++ [f]) = fld f one := by rw [fds_snoc]; rfl
    rw [e]
    obtain ⟨t, h1, h2, h3⟩ := mc_fld out [] f one i r
    exact ⟨t, h1, h3, fun h _ => (h2 h).2⟩
  | succ n ih =>
    rcases List.eq_nil_or_concat q with rfl | ⟨q', g, rfl⟩
    · simp at hn
    · rw [List.concat_eq_append] at *
      have hq' : q'.length = n := by rw [List.length_append, List.length_singleton] at hn; omega
      have hl : ¬ (q' ++ [g]).length = 0 := by rw [hn]; omega
      obtain ⟨t, h1, h2, -⟩ := ih q' hq' g (44 :: (fld f one ++ r))
      obtain ⟨u, g1, g2, g3⟩ := mc_fld out (q' ++ [g]) f one (i + (fds one (q' ++ [g])).length + 1) r
      refine ⟨u, g1, ?_, fun _ h => by simp at h⟩
      rw [fds_snoc, if_neg hl]
      have e : fds one (q' ++ [g]) ++ ([44] ++ fld f one) ++ r = fds one (q' ++ [g]) ++ 44 :: (fld f one ++ r) := by simp
      rw [e, h2, mc, if_neg (by rcases h1 with rfl | rfl | rfl <;> decide), if_neg (by decide), if_neg (fun h => absurd h.1 (by decide)), if_pos rfl, g3]
      congr 1
      simp only [List.length_append, List.length_cons, List.length_nil]
      omega
theorem mc_rw (q : List (List UInt8)) (hq : q ≠ []) (i : Nat) (r : List UInt8) : mc 0 out [] [] i (rwL q ++ r) = mc 0 (out ++ [q]) [] [] (i + (rwL q).length) r := by
  rcases List.eq_nil_or_concat q with rfl | ⟨q', g, rfl⟩
  · exact absurd rfl hq
  · rw [List.concat_eq_append] at *
    unfold rwL
    obtain ⟨t, h1, h2, -⟩ := mc_fds out (decide ((q' ++ [g]).length = 1)) q'.length q' rfl g i (10 :: r)
    have e : fds (decide ((q' ++ [g]).length = 1)) (q' ++ [g]) ++ [10] ++ r = fds (decide ((q' ++ [g]).length = 1)) (q' ++ [g]) ++ 10 :: r := by simp
    rw [e, h2, mc, if_neg (by rcases h1 with rfl | rfl | rfl <;> decide), if_pos rfl]
    congr 1
    simp only [List.length_append, List.length_cons, List.length_nil]
    omega
theorem mc_csv (t : List (List (List UInt8))) (ht : ∀ q ∈ t, q ≠ []) (i : Nat) : mc 0 out [] [] i (csvL t) = (out ++ t, 0, 0) := by
  induction t generalizing out i with
  | nil => rw [List.append_nil]; rfl
  | cons q t ih =>
    have e : csvL (q :: t) = rwL q ++ csvL t := by simp [csvL]
    rw [e, mc_rw out q (ht q List.mem_cons_self), ih _ (fun x hx => ht x (List.mem_cons_of_mem _ hx)), List.append_assoc]
    rfl
end
/-- What is written is read as it was. -/
theorem rd_csv {t : List (List (List UInt8))} (h : csvE t = 0) : rdL (csvL t) = (t, 0, 0) := by
  unfold csvE at h
  split at h
  · exact absurd h (by decide)
  · rename_i h1
    split at h
    · exact absurd h (by decide)
    · rename_i h2
      unfold rdL
      rw [if_neg h2, mc_csv [] t (fun q hq e => h1 (by rw [List.any_eq_true]; exact ⟨q, hq, by rw [e]; rfl⟩))]
      rfl
/-- How a field that is read ends: its bytes f are the n first ones of L, an end or nothing behind them. -/
def FO (L f : List UInt8) (n : Nat) : Prop := n ≤ L.length ∧ (n < L.length → 0 < enL (L.drop n)) ∧ ∀ out row i, ∃ st, st ≠ 2 ∧ (st = 0 → n = 0) ∧ mc 0 out row [] i L = mc st out row f (i + n) (L.drop n)
/-- A field that is none: the place. -/
def FE (L : List UInt8) (n : Nat) : Prop := n ≤ L.length ∧ ∀ out row i, mc 0 out row [] i L = ([], i + n, 2)
theorem enL_zero {c : UInt8} {r : List UInt8} (h : enL (c :: r) = 0) : c ≠ 44 ∧ c ≠ 10 ∧ ¬ (c = 13 ∧ r.head? = some 10) := by
  refine ⟨fun e => ?_, fun e => ?_, fun ⟨e, e2⟩ => ?_⟩
  · subst e; simp [enL] at h
  · subst e; simp [enL] at h
  · subst e
    cases r with
    | nil => simp at e2
    | cons d r =>
      simp only [List.head?_cons, Option.some.injEq] at e2
      subst e2
      simp [enL] at h
/-- Nothing of the first a bytes is a mark or an end. -/
def PN (L : List UInt8) (a : Nat) : Prop := a ≤ L.length ∧ ∀ j, j < a → L[j]? ≠ some 34 ∧ enL (L.drop j) = 0
theorem PN.zero (L : List UInt8) : PN L 0 := ⟨Nat.zero_le _, fun _ h => absurd h (Nat.not_lt_zero _)⟩
theorem drop_at {L : List UInt8} {a : Nat} {c : UInt8} (h : L[a]? = some c) : L.drop a = c :: L.drop (a + 1) := by
  obtain ⟨h1, h2⟩ := List.getElem?_eq_some_iff.1 h
  rw [List.drop_eq_getElem_cons h1, h2]
theorem PN.succ {L : List UInt8} {a : Nat} {c : UInt8} (h : PN L a) (hc : L[a]? = some c) (h1 : c ≠ 34) (h2 : enL (L.drop a) = 0) : PN L (a + 1) := by
  have := (List.getElem?_eq_some_iff.1 hc).1
  refine ⟨this, fun j hj => ?_⟩
  by_cases e : j = a
  · subst e
    exact ⟨by rw [hc]; exact fun e => h1 (Option.some.inj e), h2⟩
  · exact h.2 j (by omega)
theorem PN.mc {L : List UInt8} {a : Nat} (h : PN L a) (out : List (List (List UInt8))) (row : List (List UInt8)) (i : Nat) : mc 0 out row [] i L = mc (if a = 0 then 0 else 1) out row (L.take a) (i + a) (L.drop a) := by
  induction a with
  | zero => simp
  | succ a ih =>
    have hl : a < L.length := h.1
    obtain ⟨c, hc⟩ : ∃ c, L[a]? = some c := ⟨_, List.getElem?_eq_getElem hl⟩
    have h' : PN L a := ⟨Nat.le_of_succ_le h.1, fun j hj => h.2 j (by omega)⟩
    obtain ⟨h1, h2⟩ := h.2 a (Nat.lt_succ_self a)
    rw [hc] at h1
    have h1' : c ≠ 34 := fun e => h1 (by rw [e])
    rw [drop_at hc] at h2
    obtain ⟨e1, e2, e3⟩ := enL_zero h2
    rw [ih h', drop_at hc, Go.Proofs.YtdinmgepdeigjaaGreatDoor.fw.mc, if_neg (by split <;> decide), if_neg e2, if_neg e3, if_neg e1, if_neg h1', if_neg (by split <;> decide), if_neg (Nat.succ_ne_zero a)]
    rw [List.take_add_one, hc]
    rfl
theorem PN.err {L : List UInt8} {a : Nat} (h : PN L a) (h0 : L[0]? ≠ some 34) (hc : L[a]? = some 34) : FE L a := by
  refine ⟨h.1, fun out row i => ?_⟩
  have ha : a ≠ 0 := fun e => by subst e; exact h0 hc
  rw [h.mc, if_neg ha, drop_at hc, Go.Proofs.YtdinmgepdeigjaaGreatDoor.fw.mc, if_neg (by decide), if_neg (by decide), if_neg (fun h => absurd h.1 (by decide)), if_neg (by decide), if_pos rfl, if_neg (by decide), if_pos rfl]
theorem PN.fo {L : List UInt8} {a : Nat} (h : PN L a) (he : a < L.length → 0 < enL (L.drop a)) : FO L (L.take a) a := by
  refine ⟨h.1, he, fun out row i => ⟨if a = 0 then 0 else 1, by split <;> decide, fun hs => ?_, h.mc out row i⟩⟩
  split at hs
  · assumption
  · exact absurd hs (by decide)
/-- The first a bytes of L are a field between marks: f is read; the last mark stands open, or is closed. -/
def QN (L f : List UInt8) (a : Nat) (op : Bool) : Prop :=
  if op = true then L.take a = 34 :: esq f ∧ 1 ≤ a ∧ a ≤ L.length ∧ ∀ out row i, mc 0 out row [] i L = mc 2 out row f (i + a) (L.drop a)
  else if a = 0 then f = [] else L.take a = 34 :: esq f ++ [34] ∧ 2 ≤ a ∧ a ≤ L.length ∧ ∀ out row i, mc 0 out row [] i L = mc 3 out row f (i + a) (L.drop a)
theorem take_at {L : List UInt8} {a : Nat} {c : UInt8} (h : L[a]? = some c) : L.take (a + 1) = L.take a ++ [c] := by
  rw [List.take_add_one, h]; rfl
theorem QN.first {L : List UInt8} (h : L[0]? = some 34) : QN L [] 1 true := by
  unfold QN
  rw [if_pos rfl]
  have hl := (List.getElem?_eq_some_iff.1 h).1
  refine ⟨by rw [take_at h]; rfl, Nat.le_refl _, hl, fun out row i => ?_⟩
  have e : L = 34 :: L.drop 1 := by have := drop_at h; rwa [List.drop_zero] at this
  rw [e, mc, if_neg (by decide), if_neg (by decide), if_neg (fun h => absurd h.1 (by decide)), if_neg (by decide), if_pos rfl, if_pos rfl]
  rfl
theorem QN.close {L f : List UInt8} {a : Nat} (h : QN L f a true) (hc : L[a]? = some 34) : QN L f (a + 1) false := by
  unfold QN at h ⊢
  rw [if_pos rfl] at h
  rw [if_neg (by decide), if_neg (Nat.succ_ne_zero a)]
  have hl := (List.getElem?_eq_some_iff.1 hc).1
  refine ⟨by rw [take_at hc, h.1], by omega, hl, fun out row i => ?_⟩
  rw [h.2.2.2, drop_at hc, mc, if_pos rfl, if_pos rfl]
  rfl
theorem QN.more {L f : List UInt8} {a : Nat} {c : UInt8} (h : QN L f a true) (hc : L[a]? = some c) (h34 : c ≠ 34) : QN L (f ++ [c]) (a + 1) true := by
  unfold QN at h ⊢
  rw [if_pos rfl] at h ⊢
  have hl := (List.getElem?_eq_some_iff.1 hc).1
  refine ⟨by rw [take_at hc, h.1, esq_snoc, if_neg h34]; rfl, by omega, hl, fun out row i => ?_⟩
  rw [h.2.2.2, drop_at hc, mc, if_pos rfl, if_neg h34]
  rfl
theorem QN.again {L f : List UInt8} {a : Nat} (h : QN L f a false) (ha : 1 ≤ a) (hc : L[a]? = some 34) : QN L (f ++ [34]) (a + 1) true := by
  unfold QN at h ⊢
  rw [if_neg (by decide), if_neg (by omega)] at h
  rw [if_pos rfl]
  have hl := (List.getElem?_eq_some_iff.1 hc).1
  refine ⟨by rw [take_at hc, h.1, esq_snoc, if_pos rfl]; simp, by omega, hl, fun out row i => ?_⟩
  rw [h.2.2.2, drop_at hc, mc, if_neg (by decide), if_neg (by decide), if_neg (fun h => absurd h.1 (by decide)), if_neg (by decide), if_pos rfl, if_neg (by decide), if_neg (by decide)]
  rfl
theorem QN.open_end {L f : List UInt8} {a : Nat} (h : QN L f a true) (ha : a = L.length) : FE L a := by
  unfold QN at h
  rw [if_pos rfl] at h
  refine ⟨h.2.2.1, fun out row i => ?_⟩
  rw [h.2.2.2, ha, List.drop_length, mc, if_pos rfl]
theorem QN.err {L f : List UInt8} {a : Nat} {c : UInt8} (h : QN L f a false) (ha : 1 ≤ a) (hc : L[a]? = some c) (h34 : c ≠ 34) (he : enL (L.drop a) = 0) : FE L a := by
  unfold QN at h
  rw [if_neg (by decide), if_neg (by omega)] at h
  refine ⟨h.2.2.1, fun out row i => ?_⟩
  rw [drop_at hc] at he
  obtain ⟨e1, e2, e3⟩ := enL_zero he
  rw [h.2.2.2, drop_at hc, mc, if_neg (by decide), if_neg e2, if_neg e3, if_neg e1, if_neg h34, if_pos rfl]
theorem QN.fo {L f : List UInt8} {a : Nat} (h : QN L f a false) (ha : 1 ≤ a) (he : a < L.length → 0 < enL (L.drop a)) : FO L f a ∧ L.take a = 34 :: esq f ++ [34] ∧ 2 ≤ a := by
  unfold QN at h
  rw [if_neg (by decide), if_neg (by omega)] at h
  exact ⟨⟨h.2.2.1, he, fun out row i => ⟨3, by decide, fun h => absurd h (by decide), h.2.2.2 out row i⟩⟩, h.1, h.2.1⟩
theorem enL_le (L : List UInt8) : enL L ≤ L.length := by
  unfold enL
  split <;> simp
/-- A row is read so far: the machine stands at the head of a field. -/
def RN (L : List UInt8) (q : List (List UInt8)) (a : Nat) : Prop := a ≤ L.length ∧ (q = [] → a = 0) ∧ ∀ out i, mc 0 out [] [] i L = mc 0 out q [] (i + a) (L.drop a)
theorem RN.zero (L : List UInt8) : RN L [] 0 := ⟨Nat.zero_le _, fun _ => rfl, fun out i => by simp⟩
/-- A row is read. -/
def RO (L : List UInt8) (q : List (List UInt8)) (n : Nat) : Prop := 0 < n ∧ n ≤ L.length ∧ ∀ out i, mc 0 out [] [] i L = mc 0 (out ++ [q]) [] [] (i + n) (L.drop n)
def RE (L : List UInt8) (n : Nat) : Prop := n ≤ L.length ∧ ∀ out i, mc 0 out [] [] i L = ([], i + n, 2)
theorem RN.err {L : List UInt8} {q : List (List UInt8)} {a n : Nat} (h : RN L q a) (he : FE (L.drop a) n) : RE L (a + n) := by
  have := he.1
  rw [List.length_drop] at this
  refine ⟨by have := h.1; omega, fun out i => ?_⟩
  rw [h.2.2, he.2, Nat.add_assoc]
theorem RN.comma {L f : List UInt8} {q : List (List UInt8)} {a n : Nat} (h : RN L q a) (ho : FO (L.drop a) f n) (h44 : L[a + n]? = some 44) : RN L (q ++ [f]) (a + n + 1) := by
  have hl := (List.getElem?_eq_some_iff.1 h44).1
  refine ⟨hl, fun e => by simp at e, fun out i => ?_⟩
  obtain ⟨st, h1, -, h3⟩ := ho.2.2 out q (i + a)
  rw [h.2.2, h3, List.drop_drop, drop_at h44, mc, if_neg h1, if_neg (by decide), if_neg (fun h => absurd h.1 (by decide)), if_pos rfl]
  congr 1
  omega
theorem RN.line {L f : List UInt8} {q : List (List UInt8)} {a n : Nat} (h : RN L q a) (ho : FO (L.drop a) f n) (h10 : L[a + n]? = some 10) : RO L (q ++ [f]) (a + n + 1) := by
  have hl := (List.getElem?_eq_some_iff.1 h10).1
  refine ⟨by omega, hl, fun out i => ?_⟩
  obtain ⟨st, h1, -, h3⟩ := ho.2.2 out q (i + a)
  rw [h.2.2, h3, List.drop_drop, drop_at h10, mc, if_neg h1, if_pos rfl]
  congr 1
  omega
theorem RN.line2 {L f : List UInt8} {q : List (List UInt8)} {a n : Nat} (h : RN L q a) (ho : FO (L.drop a) f n) (h13 : L[a + n]? = some 13) (h10 : L[a + n + 1]? = some 10) : RO L (q ++ [f]) (a + n + 2) := by
  have hl := (List.getElem?_eq_some_iff.1 h10).1
  refine ⟨by omega, hl, fun out i => ?_⟩
  obtain ⟨st, h1, -, h3⟩ := ho.2.2 out q (i + a)
  rw [h.2.2, h3, List.drop_drop, drop_at h13, mc, if_neg h1, if_neg (by decide), if_pos ⟨rfl, by rw [drop_at h10]; rfl⟩, drop_at h10, mc, if_neg h1, if_pos rfl]
  congr 1
  omega
theorem RN.last {L f : List UInt8} {q : List (List UInt8)} {a n : Nat} (h : RN L q a) (ho : FO (L.drop a) f n) (hn : a + n = L.length) (h0 : 0 < L.length) : RO L (q ++ [f]) (a + n) := by
  refine ⟨by omega, by omega, fun out i => ?_⟩
  obtain ⟨st, h1, h2, h3⟩ := ho.2.2 out q (i + a)
  have h4 : ¬ (st = 0 ∧ q = []) := fun ⟨e1, e2⟩ => by have := h2 e1; have := h.2.1 e2; omega
  rw [h.2.2, h3, List.drop_drop, hn, List.drop_length, mc, if_neg h1, if_neg h4, mc, if_neg (by decide), if_pos ⟨rfl, rfl⟩]
/-- A text is read so far. -/
def TN (L : List UInt8) (out : List (List (List UInt8))) (a : Nat) : Prop := a ≤ L.length ∧ mc 0 [] [] [] 0 L = mc 0 out [] [] a (L.drop a)
theorem TN.zero (L : List UInt8) : TN L [] 0 := ⟨Nat.zero_le _, by simp⟩
theorem TN.row {L : List UInt8} {out : List (List (List UInt8))} {a n : Nat} {q : List (List UInt8)} (h : TN L out a) (hr : RO (L.drop a) q n) : TN L (out ++ [q]) (a + n) := by
  have := hr.2.1
  rw [List.length_drop] at this
  refine ⟨by have := h.1; omega, ?_⟩
  rw [h.2, hr.2.2, List.drop_drop]
theorem TN.err {L : List UInt8} {out : List (List (List UInt8))} {a n : Nat} (h : TN L out a) (hr : RE (L.drop a) n) (hl : L.length ≤ 4000) : rdL L = ([], a + n, 2) := by
  unfold rdL
  rw [if_neg (by omega), h.2, hr.2]
theorem TN.done {L : List UInt8} {out : List (List (List UInt8))} {a : Nat} (h : TN L out a) (ha : a = L.length) (hl : L.length ≤ 4000) : rdL L = (out, 0, 0) := by
  unfold rdL
  rw [if_neg (by omega), h.2, ha, List.drop_length, mc, if_neg (by decide), if_pos ⟨rfl, rfl⟩]
end Go.Proofs.YtdinmgepdeigjaaGreatDoor.fw
