
/- The values of a column, each once, rising: there is one such list. Nothing is walked here. Conditions: as each theorem says. -/
import Derived.Test.YtbiikodnfaeceaaGreatDoorRc
import Derived.Test.YtbiikodnfaeceaaGreatDoorSz
import Derived.Test.YtbiikodnfaeceaaGreatDoorUd
namespace Go.Proofs.YtbiikodnfaeceaaGreatDoor.so
open Go.RowKit Go.Sort Go.Shelf
/-- Are two values the same? -/
def vlEq (a b : Vl) : Bool := a.k == b.k && a.n == b.n && a.s.toList == b.s.toList
theorem vlEq_iff {a b : Vl} : vlEq a b = true ↔ a = b := by
  obtain ⟨ak, an, az⟩ := a
  obtain ⟨bk, bn, bs⟩ := b
  unfold vlEq
  simp [bytes_ext, and_assoc]
/-- One value more, if it is not the last one. -/
def ddS (out : List Vl) (v : Vl) : List Vl := match out.getLast? with
  | none => [v]
  | some t => if vlEq t v = true then out else out ++ [v]
def ddL (l : List Vl) : List Vl := l.foldl ddS []
theorem ddL_snoc (l : List Vl) (v : Vl) : ddL (l ++ [v]) = ddS (ddL l) v := by simp [ddL]
theorem ddS_nil (v : Vl) : ddS [] v = [v] := rfl
theorem ddS_yes {out : List Vl} {t v : Vl} (h : out.getLast? = some t) (e : vlEq t v = true) : ddS out v = out := by unfold ddS; rw [h]; simp [e]
theorem ddS_no {out : List Vl} {t v : Vl} (h : out.getLast? = some t) (e : vlEq t v = false) : ddS out v = out ++ [v] := by unfold ddS; rw [h]; simp [e]
theorem ddL_len (l : List Vl) : (ddL l).length ≤ l.length := by
  obtain ⟨r, rfl⟩ : ∃ r : List Vl, l = r.reverse := ⟨l.reverse, by simp⟩
  induction r with
  | nil => simp [ddL]
  | cons v r ih =>
    rw [List.reverse_cons, ddL_snoc]
    have : (ddS (ddL r.reverse) v).length ≤ (ddL r.reverse).length + 1 := by
      unfold ddS
      cases (ddL r.reverse).getLast? with
      | none => simp
      | some t => dsimp only; split <;> simp
    simp at *
    omega
theorem Vl.cmp_self (x : Vl) : x.cmp x = 0 := by have := Vl.cmp_neg x x; omega
theorem ddL_facts (l : List Vl) (hs : l.Pairwise (fun a b => a.cmp b ≤ 0)) (hok : ∀ v ∈ l, v.ok = true) :
    (ddL l).Pairwise (fun a b => a.cmp b < 0) ∧ (∀ v, v ∈ ddL l ↔ v ∈ l) ∧ (ddL l).getLast? = l.getLast? := by
  obtain ⟨r, rfl⟩ : ∃ r : List Vl, l = r.reverse := ⟨l.reverse, by simp⟩
  induction r with
  | nil => exact ⟨by simp [ddL], by simp [ddL], by simp [ddL]⟩
  | cons v r ih =>
    rw [List.reverse_cons] at hs hok ⊢
    obtain ⟨h1, -, h3⟩ := List.pairwise_append.1 hs
    obtain ⟨i1, i2, i3⟩ := ih h1 (fun u hu => hok u (List.mem_append_left _ hu))
    have hle : ∀ u ∈ r.reverse, u.cmp v ≤ 0 := fun u hu => h3 u hu v (by simp)
    generalize r.reverse = l at *
    rw [ddL_snoc]
    cases hl : (ddL l).getLast? with
    | none =>
      have e0 : ddL l = [] := List.getLast?_eq_none_iff.1 hl
      have el : l = [] := List.getLast?_eq_none_iff.1 (i3.symm.trans hl)
      rw [e0, el, ddS_nil]
      exact ⟨by simp, by simp, by simp⟩
    | some t =>
      have hlt : l.getLast? = some t := i3.symm.trans hl
      obtain ⟨l', hl'⟩ := List.getLast?_eq_some_iff.1 hlt
      have htm : t ∈ l := by rw [hl']; simp
      cases e : vlEq t v with
      | true =>
        have et := vlEq_iff.1 e
        rw [ddS_yes hl e]
        refine ⟨i1, fun u => ?_, ?_⟩
        · rw [i2 u, List.mem_append, List.mem_singleton]
          constructor
          · intro h; exact .inl h
          · rintro (h | h)
            · exact h
            · rw [h, ← et]; exact htm
        · rw [hl, et]; simp
      | false =>
        rw [ddS_no hl e]
        refine ⟨List.pairwise_append.2 ⟨i1, by simp, fun u hu x hx => ?_⟩, fun u => ?_, by simp⟩
        · rw [List.mem_singleton] at hx
          subst hx
          have hul := (i2 u).1 hu
          have h4 := hle u hul
          have hne : u.cmp x ≠ 0 := fun h0 => by
            have eu : u = x := (Vl.cmp_zero (hok u (List.mem_append_left _ hul)) (hok x (by simp))).1 h0
            have hut : u.cmp t ≤ 0 := by
              rw [hl'] at h1 hul
              rcases List.mem_append.1 hul with h | h
              · exact (List.pairwise_append.1 h1).2.2 u h t (by simp)
              · rw [List.mem_singleton] at h; rw [h, Vl.cmp_self]; omega
            have htx := hle t htm
            rw [eu] at hut
            have h5 := Vl.cmp_neg t x
            have h6 : t.cmp x = 0 := by omega
            have := (Vl.cmp_zero (hok t (List.mem_append_left _ htm)) (hok x (by simp))).1 h6
            rw [vlEq_iff.2 this] at e
            cases e
          omega
        · rw [List.mem_append, List.mem_append, i2 u]
theorem rise_ext : ∀ {l m : List Vl}, l.Pairwise (fun a b => a.cmp b < 0) → m.Pairwise (fun a b => a.cmp b < 0) → (∀ x, x ∈ l ↔ x ∈ m) → l = m
  | [], [], _, _, _ => rfl
  | [], b :: m, _, _, h => absurd ((h b).2 (by simp)) List.not_mem_nil
  | a :: l, [], _, _, h => absurd ((h a).1 (by simp)) List.not_mem_nil
  | a :: l, b :: m, h1, h2, h => by
    have c1 := List.pairwise_cons.1 h1
    have c2 := List.pairwise_cons.1 h2
    have e : a = b := by
      rcases List.mem_cons.1 ((h a).1 (by simp)) with e | e
      · exact e
      · rcases List.mem_cons.1 ((h b).2 (by simp)) with e' | e'
        · exact e'.symm
        · have k1 := c1.1 b e'; have k2 := c2.1 a e; have k3 := Vl.cmp_neg a b; omega
    subst e
    rw [rise_ext c1.2 c2.2 fun x => ?_]
    constructor
    · intro hx
      rcases List.mem_cons.1 ((h x).1 (List.mem_cons_of_mem _ hx)) with rfl | e
      · have := c1.1 x hx; have := Vl.cmp_self x; omega
      · exact e
    · intro hx
      rcases List.mem_cons.1 ((h x).2 (List.mem_cons_of_mem _ hx)) with rfl | e
      · have := c2.1 x hx; have := Vl.cmp_self x; omega
      · exact e
/-- The values of a column, each once, rising. -/
def Hds (T : Tb) (k : Nat) (hs : List Vl) : Prop := hs.Pairwise (fun a b => a.cmp b < 0) ∧ ∀ v, v ∈ hs ↔ ∃ i, i < T.q ∧ T.v i k = v
theorem Hds.one {T : Tb} {k : Nat} {hs hs' : List Vl} (h : Hds T k hs) (h' : Hds T k hs') : hs = hs' := rise_ext h.1 h'.1 fun x => by rw [h.2, h'.2]
theorem Hds.of {T : Tb} {k : Nat} {Z : List Nat} {l : List Vl} (hp : Z.Perm (List.range T.q)) (hl : l.Perm (Z.map fun i => T.v i k)) (hs : l.Pairwise (fun a b => a.cmp b ≤ 0)) (hok : ∀ i, i < T.q → (T.v i k).ok = true) : Hds T k (ddL l) := by
  have hm : ∀ v, v ∈ l ↔ ∃ i, i < T.q ∧ T.v i k = v := fun v => by
    rw [hl.mem_iff, List.mem_map]
    constructor
    · rintro ⟨i, hi, e⟩; exact ⟨i, List.mem_range.1 (hp.mem_iff.1 hi), e⟩
    · rintro ⟨i, hi, e⟩; exact ⟨i, hp.mem_iff.2 (List.mem_range.2 hi), e⟩
  obtain ⟨f1, f2, -⟩ := ddL_facts l hs (fun v hv => by obtain ⟨i, hi, e⟩ := (hm v).1 hv; rw [← e]; exact hok i hi)
  exact ⟨f1, fun v => (f2 v).trans (hm v)⟩
theorem crw_one (a b : Nat → Vl) (k : Nat) (c : Nat → Int) (hc : c 0 = (k : Int)) : crw a b c (fun _ => false) 1 0 = (a k).cmp (b k) := by
  unfold crw
  have e : sg false ((a (c 0).toNat).cmp (b (c 0).toNat)) = (a k).cmp (b k) := by rw [hc, Int.toNat_natCast]; rfl
  rw [e]
  by_cases h : (a k).cmp (b k) = 0
  · rw [if_pos h, h]; rfl
  · rw [if_neg h]
theorem heads_of {T : Tb} {k : Nat} {c : Nat → Int} (hc : c 0 = (k : Int)) {Z : List Nat} (hS : StN T 1 c (fun _ => false) Z) (hok : ∀ i, i < T.q → (T.v i k).ok = true) : Hds T k (ddL (Z.map fun i => T.v i k)) :=
  Hds.of hS.1 (List.Perm.refl _) (List.pairwise_map.2 (hS.2.imp (fun {x y} h => by
    unfold Tn at h
    rw [crw_one _ _ k c hc] at h
    omega))) hok
end Go.Proofs.YtbiikodnfaeceaaGreatDoor.so
