
/- The document's Sort. Conditions: as each theorem says. -/
import Derived.Test.YtbiikodnfaeceaaGreatDoorRc
import Derived.Test.YtbiikodnfaeceaaGreatDoorAs
import Derived.Test.YtbiikodnfaeceaaGreatDoorUe
import Derived.Deep.Upon

/- Two lists of numbers held against each other; the law SortDistinct. Conditions: as each theorem says. -/
namespace Go.Proofs.YtbiikodnfaeceaaGreatDoor.so
open Go.RowKit Go.Sort Go.Shelf
/-- Are two lists the same? -/
def sameI (n : Nat) (a : Nat → Int) (m : Nat) (b : Nat → Int) : Bool := n == m && (List.range n).all fun i => a i == b i
theorem sameI_true {n : Nat} {a : Nat → Int} {m : Nat} {b : Nat → Int} : sameI n a m b = true ↔ n = m ∧ ∀ i, i < n → a i = b i := by
  unfold sameI
  simp
theorem sameI_false {n : Nat} {a : Nat → Int} {m : Nat} {b : Nat → Int} {i : Nat} (hi : i < n) (h : a i ≠ b i) : sameI n a m b = false := by
  cases e : sameI n a m b with
  | false => rfl
  | true => exact absurd ((sameI_true.1 e).2 i hi) h
theorem rsame_any (e m : Int) (w : World) (hg : ErrTy w) : Calls Tryz.prog 9 #[errV e, .int .i64 m] w fun r w' => r = .returned (.bool (e == m)) ∧ Bw w w' := by
  by_cases h : e = 0
  · subst h; exact same_nil m w
  · rw [errV_of h]; exact same_errno e m w hg
theorem errTy_next {w w' : World} (h : ErrTy w) (hb : Bw w w') : ErrTy w' := ⟨Nat.lt_of_lt_of_le h.1 hb.size, by rw [hb.cell (p := ⟨_, _, none⟩) h.1]; exact h.2⟩
end Go.Proofs.YtbiikodnfaeceaaGreatDoor.so

/- Package sort: Sorted. Conditions: as each theorem says. -/
namespace Go.Proofs.YtbiikodnfaeceaaGreatDoor.so
open Go.RowKit Go.Sort Go.Shelf
abbrev nthN (Z : List Nat) (i : Nat) : Int := (natI Z).getD i 0
/-- What Sorted answers. -/
def SR (T : Tb) (n : Nat) (c : Nat → Int) (d : Nat → Bool) (m : Nat) (a : Nat → Int) (e : Ending) : Prop :=
  ∃ x b, e = .returned (.tuple #[.bool b, errV x]) ∧ CF T n c x ∧ (x ≠ 0 → b = false) ∧ (x = 0 → ∃ Z, StN T n c d Z ∧ b = sameL m a Z.length (nthN Z))
theorem stn_len {T : Tb} {n : Nat} {c : Nat → Int} {d : Nat → Bool} {Z : List Nat} (h : StN T n c d Z) : Z.length = T.q := by rw [h.1.length_eq]; simp
end Go.Proofs.YtbiikodnfaeceaaGreatDoor.so

/- The document's order of rows: which of two stands ahead, the columns of keys. Conditions: as each theorem says. -/
namespace Go.Proofs.YtbiikodnfaeceaaGreatDoor.so
open Go.RowKit Go.Sort Go.Shelf
theorem rcmp_gr (x y : Vl) (w : World) : Calls Tryz.prog 47 #[V x.k x.n x.s, V y.k y.n y.s] w fun e w' => e = .returned (.int .i64 (x.cmp y)) ∧ Gr w w' := rcompare_any _ _ _ _ _ _ _
theorem cell_at2 {w : World} {g o : Nat} {v : Value} (hg : g < w.heap.size) (h : w.cell? ⟨g, o, none⟩ = some v) (n : Nat) (os : Array Obj) : (grow (w.drewN n) os).cell? ⟨g, o, none⟩ = some v := by
  have hb : Below w.heap.size w (grow (w.drewN n) os) := Gr.below ⟨n, os, rfl⟩
  rw [hb.cell (p := ⟨g, _, none⟩) hg]
  exact h
set_option maxRecDepth 100000 in
set_option maxHeartbeats 4000000 in
theorem rahead_any (p1 : Option Addr) (l1 c1 : Nat) (a : Nat → Vl) (p2 : Option Addr) (l2 c2 : Nat) (b : Nat → Vl) (p3 : Option Addr) (n c3 : Nat) (c : Nat → Int) (d : Nat → Bool) (w : World) (h1 : VM w p1 l1 a) (h2 : VM w p2 l2 b) (h3 : KM w p3 n c d) (hn : n ≤ 12) (hc : ∀ i, i < n → 0 ≤ c i ∧ c i < (l1 : Int) ∧ c i < (l2 : Int)) :
    Calls Tryz.prog 29 #[.slice p1 l1 c1, .slice p2 l2 c2, .slice p3 n c3] w fun e w' => e = .returned (.bool (decide (crw a b c d n 0 < 0))) ∧ Gr w w' := by
  have H1 : Hid (VM w p1 l1 a) := h1
  have H2 : Hid (VM w p2 l2 b) := h2
  have H3 : Hid (KM w p3 n c d) := h3
  have HC : Hid (∀ i, i < n → 0 ≤ c i ∧ c i < (l1 : Int) ∧ c i < (l2 : Int)) := hc
  clear h1 h2 h3 hc
  obtain ⟨A, hA⟩ : ∃ A, decide (crw a b c d n 0 < 0) = A := ⟨_, rfl⟩
  have HA : Hid (decide (crw a b c d n 0 < 0) = A) := hA
  rw [hA]
  clear hA
  have mixed := mixed
  go_enter Tryz.func29, Tryz.ntmps29
  go_wp2_with fail
  go_loopw [7] (fun i wr => ∃ j : Nat, i = .int .i64 j ∧ j ≤ n ∧ Hid (Gr w wr) ∧ Hid (decide (crw a b c d (n - j) j < 0) = A)) (fun i _ => n - (intOf i).toNat)
  case atStart => exact ⟨0, rfl, Nat.zero_le _, Gr.refl _, HA⟩
  case round =>
    obtain ⟨j, rfl, hj, HB, HD⟩ := hrel
    by_cases hlt : j < n
    · have hlt' : (j : Int) < (n : Int) := by omega
      have hj0 : (0 : Int) ≤ (j : Int) := by omega
      obtain ⟨hx0, hx1, hx2⟩ := HC.out j hlt
      rcases H3.out.next HB.out.below with h | ⟨g3, o3, rfl, hg3, h3⟩
      · omega
      obtain ⟨t, ht⟩ : ∃ t : Nat, c j = (t : Int) := ⟨(c j).toNat, by omega⟩
      have HX : Hid ((c j).toNat = t) := by show (c j).toNat = t; omega
      rw [ht] at hx0 hx1 hx2
      have y0 := fun m os => cell_at2 hg3 (h3 j hlt).1 m os
      have y1 := fun m os => cell_at2 hg3 (h3 j hlt).2 m os
      rw [ht] at y0
      obtain ⟨D, hD⟩ : ∃ D, d j = D := ⟨_, rfl⟩
      rw [hD] at y1
      have HDD : Hid (d j = D) := hD
      clear hD h3 hg3
      rcases H1.out.next HB.out.below with h | ⟨g1, o1, rfl, hg1, h1⟩
      · omega
      rcases H2.out.next HB.out.below with h | ⟨g2, o2, rfl, hg2, h2⟩
      · omega
      have z1 := fun m os => (vm_at hg1 h1 (i := t) (by omega) m os).1
      have z2 := fun m os => (vm_at hg1 h1 (i := t) (by omega) m os).2.1
      have z3 := fun m os => (vm_at hg1 h1 (i := t) (by omega) m os).2.2
      have x1 := fun m os => (vm_at hg2 h2 (i := t) (by omega) m os).1
      have x2 := fun m os => (vm_at hg2 h2 (i := t) (by omega) m os).2.1
      have x3 := fun m os => (vm_at hg2 h2 (i := t) (by omega) m os).2.2
      have hc := fun m os => rcmp_gr (a t) (b t) (grow (wr.drewN m) os)
      have HQ : Hid ((a (c j).toNat).cmp (b (c j).toNat) = (a t).cmp (b t) ∧ -1 ≤ (a t).cmp (b t) ∧ (a t).cmp (b t) ≤ 1) := ⟨by rw [HX.out], Vl.cmp_bd _ _⟩
      generalize (a t).cmp (b t) = q at *
      generalize a t = va at *
      generalize b t = vb at *
      obtain ⟨k1, n1, s1⟩ := va
      obtain ⟨k2, n2, s2⟩ := vb
      dsimp only at z1 z2 z3 x1 x2 x3 hc
      clear h1 h2 hg1 hg2 ht
      go_wp2_with fail
      go_quiet_grown (first | (go_at_call 47; refine Calls.grown_of (hc _ _)))
      have HB2 : Hid (Gr w (grow (wr.drewN nq) osq)) := HB.out.trans ⟨nq, osq, rfl⟩
      have hd := y1 nq osq
      clear z1 z2 z3 x1 x2 x3 hc y0 y1 HB
      generalize grow (wr.drewN nq) osq = w2 at *
      have HST : Hid (crw a b c d (n - j) j = if sg D q = 0 then crw a b c d (n - (j + 1)) (j + 1) else sg D q) := by
        show _ = _
        rw [show n - j = (n - (j + 1)) + 1 by omega, crw, HDD.out, HQ.out.1]
      have hq3 : q = -1 ∨ q = 0 ∨ q = 1 := by have := HQ.out.2; omega
      rcases hq3 with e | e | e <;> subst e <;> cases D
      all_goals first
        | (have HN : Hid (decide (crw a b c d (n - (j + 1)) (j + 1) < 0) = A) := by
            have h := HST.out
            have h2 := HD.out
            rw [if_pos (by decide)] at h
            rw [h] at h2
            exact h2
           clear HST
           go_wp2_with fail
           exact ⟨⟨j + 1, by simp, hlt, HB2, HN⟩, by simp [intOf]; omega⟩)
        | (have HN : Hid (A = true) := by
            have h := HST.out
            have h2 := HD.out
            rw [if_neg (by decide)] at h
            rw [h] at h2
            exact h2.symm.trans (by decide)
           clear HST
           go_wp2_with fail
           go_ret
           exact ⟨by rw [HN.out]; rfl, HB2.out⟩)
        | (have HN : Hid (A = false) := by
            have h := HST.out
            have h2 := HD.out
            rw [if_neg (by decide)] at h
            rw [h] at h2
            exact h2.symm.trans (by decide)
           clear HST
           go_wp2_with fail
           go_ret
           exact ⟨by rw [HN.out]; rfl, HB2.out⟩)
    · have hj2 : ¬ (j : Int) < (n : Int) := by omega
      have ej : j = n := by omega
      subst ej
      have HE : Hid (A = false) := by show A = false; rw [← HD.out, Nat.sub_self]; rfl
      go_wp2_with fail
      go_ret
      exact ⟨by rw [HE.out]; rfl, HB.out⟩
end Go.Proofs.YtbiikodnfaeceaaGreatDoor.so
namespace Go.Proofs.YtbiikodnfaeceaaGreatDoor.so
open Go.RowKit Go.Sort Go.Shelf
theorem add_pl (g o k : Nat) : (⟨g, o, none⟩ : Addr).add k = ⟨g, o + k, none⟩ := by
  unfold Addr.add
  by_cases h : k = 0 <;> simp [h]
/-- Some more behind a list. -/
theorem IV.many {w : World} {v : Value} {xs : List Int} {wx : World} (h : IV w v xs wx) {p : Option Addr} {ys : List Int} {a : Nat → Int} (c : Nat) (hy : IM wx p ys.length a) (ha : ∀ i, i < ys.length → a i = ys.getD i 0) (hl : xs.length + ys.length < 8796093022208) :
    ∃ v' w', (Builtin.append_ #[23, 23] 23 #[v, .slice p ys.length c]).run Tryz.prog wx = .ok v' w' ∧ IV w v' (xs ++ ys) w' := by
  obtain ⟨i0, hi, hz0, hz1, hz2⟩ := info_parts info3
  have hmax : maxLen = 9223372036854775807 := rfl
  by_cases h0 : ys = []
  · subst h0
    have hv : ∃ b l k, v = .slice b l k ∧ l ≤ k := by
      rcases h.own.2 with ⟨rfl, -⟩ | ⟨g, cap, cur, rfl, -, -, hc, -⟩
      · exact ⟨none, 0, 0, rfl, Nat.le_refl _⟩
      · exact ⟨_, _, _, rfl, hc⟩
    obtain ⟨b, l, k, rfl, hlk⟩ := hv
    refine ⟨_, wx, run_append_nothing (P := Tryz.prog) wx 23 23 23 3 i0 Tryz.underlying23 hi b l k hlk (.slice p 0 c) ?_, by rw [List.append_nil]; exact h⟩
    rw [hz1]
    cases p with
    | none => exact Src.ofNil wx Tryz.underlying23 c
    | some ad => exact Src.ofSlice wx Tryz.underlying23 ad 0 c [] (by simp) (by simp) (by simp)
  · have hl0 : 0 < ys.length := List.length_pos_iff.2 h0
    rcases hy with hy | ⟨g, o, rfl, hg, hc⟩
    · omega
    obtain ⟨g', cap', w', hr, ho, hgr, -, -⟩ := run_append_lies (P := Tryz.prog) (w := wx) 23 23 w.heap.size 3 i0 (.int .i64 0) 1 8 Tryz.underlying23 hi hz0 hz1 hz2 rfl (by decide) v xs.length (ints xs) h.own ⟨g, o, none⟩ ys.length c (ints ys) (by simp) (fun j u hu => by
      have hj : j < ys.length := by have := (List.getElem?_eq_some_iff.1 hu).1; simpa using this
      rw [add_pl, hc j hj, ha j hj, ← hu, List.getElem?_map, List.getElem?_eq_getElem hj, List.getD_eq_getElem?_getD, List.getElem?_eq_getElem hj]
      rfl) (by simp [Value.oneCell']) hl0 (by omega) (by omega) h.below.size _ rfl
    refine ⟨_, w', hr, ⟨?_, h.below.grown hgr h.below.size (fun q hq => (h.own.lt q hq).1)⟩⟩
    have e : ints (xs ++ ys) = ints xs ++ ints ys := by simp
    rw [e, List.length_append]
    exact ho
/-- One is put into a row from behind. -/
theorem ins_ok {T : Tb} {n : Nat} {c : Nat → Int} {d : Nat → Bool} {i k : Nat} {Z : List Nat} (hp : Z.Perm (List.range i)) (hw : Z.Pairwise (Tn T n c d)) (hk : k ≤ Z.length) (h1 : ∀ j (hj : j < Z.length), k ≤ j → crw (T.v i) (T.v Z[j]) c d n 0 < 0) (h2 : ∀ j (hj : j < Z.length), j + 1 = k → ¬ crw (T.v i) (T.v Z[j]) c d n 0 < 0) :
    (Z.take k ++ [i] ++ Z.drop k).Perm (List.range (i + 1)) ∧ (Z.take k ++ [i] ++ Z.drop k).Pairwise (Tn T n c d) := by
  have hlt : ∀ z ∈ Z, z < i := fun z hz => List.mem_range.1 (hp.mem_iff.1 hz)
  constructor
  · rw [List.range_succ]
    have e : (Z.take k ++ [i] ++ Z.drop k).Perm (Z ++ [i]) := by
      have e1 : Z ++ [i] = Z.take k ++ (Z.drop k ++ [i]) := by rw [← List.append_assoc, List.take_append_drop]
      rw [List.append_assoc, e1]
      exact List.Perm.append_left _ List.perm_append_comm
    exact e.trans (hp.append_right [i])
  · have hA : ∀ z ∈ Z.take k, Tn T n c d z i := by
      intro z hz
      obtain ⟨j, hj, e⟩ := List.getElem_of_mem hz
      rw [List.length_take] at hj
      rw [List.getElem_take] at e
      have hjl : j < Z.length := by omega
      have hk1 : k - 1 < Z.length := by omega
      have hlast : Tn T n c d Z[k - 1] i := by
        have := h2 (k - 1) hk1 (by omega)
        have hneg := crw_neg (T.v i) (T.v Z[k - 1]) c d n 0
        have hzi := hlt Z[k - 1] (List.getElem_mem hk1)
        unfold Tn
        omega
      by_cases e' : j = k - 1
      · subst e'; rw [← e]; exact hlast
      · have := List.pairwise_iff_getElem.1 hw j (k - 1) hjl hk1 (by omega)
        rw [← e]
        exact tn_trans this hlast
    have hB : ∀ z ∈ Z.drop k, Tn T n c d i z := by
      intro z hz
      obtain ⟨j, hj, e⟩ := List.getElem_of_mem hz
      rw [List.length_drop] at hj
      rw [List.getElem_drop] at e
      have := h1 (k + j) (by omega) (by omega)
      rw [e] at this
      exact .inl this
    have hAB : ∀ x ∈ Z.take k, ∀ y ∈ Z.drop k, Tn T n c d x y := fun x hx y hy => tn_trans (hA x hx) (hB y hy)
    rw [List.append_assoc, List.pairwise_append]
    refine ⟨hw.sublist (List.take_sublist _ _), ?_, ?_⟩
    · rw [List.singleton_append, List.pairwise_cons]
      exact ⟨hB, hw.sublist (List.drop_sublist _ _)⟩
    · intro x hx y hy
      rw [List.singleton_append, List.mem_cons] at hy
      rcases hy with e | hy
      · rw [e]; exact hA x hx
      · exact hAB x hx y hy
end Go.Proofs.YtbiikodnfaeceaaGreatDoor.so
