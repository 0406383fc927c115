
/- Package sort: whether two rows are alike; which rows are like none ahead. Conditions: as each theorem says. -/
import Derived.Test.YtehamdkjdbaceaaDoorSb
import Derived.Shelf.SlSortCmp.QuietGrown
namespace Go.Proofs.YtehamdkjdbaceaaDoor.so
open Go.RowKit Go.Sort Go.Shelf
/-- A row of values, opened in every world that has grown. -/
theorem vm_at {w : World} {g o q : Nat} {v : Nat → Vl} (hg : g < w.heap.size) (h : ∀ i, i < q → w.cell? ⟨g, o + i * 3, none⟩ = some (.int .i64 (v i).k) ∧ w.cell? ⟨g, o + i * 3 + 1, none⟩ = some (.int .i64 (v i).n) ∧ w.cell? ⟨g, o + i * 3 + 2, none⟩ = some (.string (v i).s)) {i : Nat} (hi : i < q) (n : Nat) (os : Array Obj) :
    (grow (w.drewN n) os).cell? ⟨g, o + i * 3, none⟩ = some (.int .i64 (v i).k) ∧ (grow (w.drewN n) os).cell? ⟨g, o + i * 3 + 1, none⟩ = some (.int .i64 (v i).n) ∧ (grow (w.drewN n) os).cell? ⟨g, o + i * 3 + 2, none⟩ = some (.string (v i).s) := by
  have hb : Below w.heap.size w (grow (w.drewN n) os) := Gr.below ⟨n, os, rfl⟩
  rw [hb.cell (p := ⟨g, _, none⟩) hg, hb.cell (p := ⟨g, _, none⟩) hg, hb.cell (p := ⟨g, _, none⟩) hg]
  exact h i hi
/-- Does no column tell two rows apart? -/
def alk (a b : Nat → Vl) (n : Nat) (c : Nat → Int) : Bool := (List.range n).all fun i => (a (c i).toNat).cmp (b (c i).toNat) == 0
theorem alk_true {a b : Nat → Vl} {n : Nat} {c : Nat → Int} : alk a b n c = true ↔ ∀ i, i < n → (a (c i).toNat).cmp (b (c i).toNat) = 0 := by
  unfold alk
  simp
theorem alk_false {a b : Nat → Vl} {n : Nat} {c : Nat → Int} {i : Nat} (hi : i < n) (h : (a (c i).toNat).cmp (b (c i).toNat) ≠ 0) : alk a b n c = false := by
  cases e : alk a b n c with
  | false => rfl
  | true => exact absurd (alk_true.1 e i hi) h
theorem mixed : Tryd.prog.follows Departure.mixedOrders = true := by kernel_rfl
theorem vcmp_gr (x y : Vl) (w : World) : Calls Tryd.prog 36 #[V x.k x.n x.s, V y.k y.n y.s] w fun e w' => e = .returned (.int .i64 (x.cmp y)) ∧ Gr w w' := compare_any _ _ _ _ _ _ _
set_option maxRecDepth 100000 in
set_option maxHeartbeats 4000000 in
theorem alike_any (p1 : Option Addr) (l1 c1 : Nat) (a : Nat → Vl) (p2 : Option Addr) (l2 c2 : Nat) (b : Nat → Vl) (p3 : Option Addr) (n c3 : Nat) (c : Nat → Int) (w : World) (h1 : VM w p1 l1 a) (h2 : VM w p2 l2 b) (h3 : IM w p3 n c) (hn : n ≤ 12) (hc : ∀ i, i < n → 0 ≤ c i ∧ c i < (l1 : Int) ∧ c i < (l2 : Int)) :
    Calls Tryd.prog 29 #[.slice p1 l1 c1, .slice p2 l2 c2, .slice p3 n c3] w fun e w' => e = .returned (.bool (alk a b n c)) ∧ Gr w w' := by
  have H1 : Hid (VM w p1 l1 a) := h1
  have H2 : Hid (VM w p2 l2 b) := h2
  have H3 : Hid (IM w p3 n c) := h3
  have HC : Hid (∀ i, i < n → 0 ≤ c i ∧ c i < (l1 : Int) ∧ c i < (l2 : Int)) := hc
  clear h1 h2 h3 hc
  obtain ⟨A, hA⟩ : ∃ A, alk a b n c = A := ⟨_, rfl⟩
  have HA : Hid (alk a b n c = A) := hA
  rw [hA]
  clear hA
  have mixed := mixed
  go_enter Tryd.func29, Tryd.ntmps29
  go_wp2_with fail
  go_loopw [11] (fun i wr => ∃ j : Nat, i = .int .i64 j ∧ j ≤ n ∧ Hid (Gr w wr) ∧ Hid (∀ i, i < j → (a (c i).toNat).cmp (b (c i).toNat) = 0)) (fun i _ => n - (intOf i).toNat)
  case atStart => exact ⟨0, rfl, Nat.zero_le _, Gr.refl _, fun i hi => absurd hi (Nat.not_lt_zero _)⟩
  case round =>
    obtain ⟨j, rfl, hj, HB, HD⟩ := hrel
    by_cases hlt : j < n
    · have hlt' : (j : Int) < (n : Int) := by omega
      have hj0 : (0 : Int) ≤ (j : Int) := by omega
      obtain ⟨hx0, hx1, hx2⟩ := HC.out j hlt
      rcases H3.out.next HB.out.below with h | ⟨g3, o3, rfl, hg3, h3⟩
      · omega
      have y0 := h3 j hlt
      clear h3 hg3
      obtain ⟨t, ht⟩ : ∃ t : Nat, c j = (t : Int) := ⟨(c j).toNat, by omega⟩
      have HX : Hid ((c j).toNat = t) := by show (c j).toNat = t; omega
      rw [ht] at y0 hx0 hx1 hx2
      rcases H1.out.next HB.out.below with h | ⟨g1, o1, rfl, hg1, h1⟩
      · omega
      rcases H2.out.next HB.out.below with h | ⟨g2, o2, rfl, hg2, h2⟩
      · omega
      have z1 := fun m os => (vm_at hg1 h1 (i := t) (by omega) m os).1
      have z2 := fun m os => (vm_at hg1 h1 (i := t) (by omega) m os).2.1
      have z3 := fun m os => (vm_at hg1 h1 (i := t) (by omega) m os).2.2
      have x1 := fun m os => (vm_at hg2 h2 (i := t) (by omega) m os).1
      have x2 := fun m os => (vm_at hg2 h2 (i := t) (by omega) m os).2.1
      have x3 := fun m os => (vm_at hg2 h2 (i := t) (by omega) m os).2.2
      have hc := fun m os => vcmp_gr (a t) (b t) (grow (wr.drewN m) os)
      have HQ : Hid ((a (c j).toNat).cmp (b (c j).toNat) = (a t).cmp (b t)) := by show _ = _; rw [HX.out]
      generalize (a t).cmp (b t) = q at *
      generalize (a t).k = k1 at *
      generalize (a t).n = n1 at *
      generalize (a t).s = s1 at *
      generalize (b t).k = k2 at *
      generalize (b t).n = n2 at *
      generalize (b t).s = s2 at *
      clear h1 h2 hg1 hg2 ht
      go_wp2_with fail
      go_quiet_grown (first | (go_at_call 36; refine Calls.grown_of (hc _ _)))
      have HB2 : Hid (Gr w (grow (wr.drewN nq) osq)) := HB.out.trans ⟨nq, osq, rfl⟩
      clear z1 z2 z3 x1 x2 x3 hc HB
      generalize grow (wr.drewN nq) osq = w2 at *
      by_cases hq : q = 0
      · subst hq
        go_wp2_with fail
        exact ⟨⟨j + 1, by simp, hlt, HB2, fun i hi => by
          by_cases e : i = j
          · subst e; exact HQ.out
          · exact HD.out i (by omega)⟩, by simp [intOf]; omega⟩
      · have hq' : (q != 0) = true := by simp; exact hq
        have HF : Hid (A = false) := by show A = false; rw [← HA.out]; exact alk_false hlt (by rw [HQ.out]; exact hq)
        clear hq
        go_wp2_with fail
        go_ret
        exact ⟨by rw [HF.out]; rfl, HB2.out⟩
    · have hj2 : ¬ (j : Int) < (n : Int) := by omega
      go_wp2_with fail
      go_ret
      exact ⟨by rw [← HA.out, alk_true.2 (fun i hi => HD.out i (by omega))]; rfl, HB.out⟩
/-- A slice in a box of its own. -/
abbrev Bx (w : World) (b : Nat) (v : Value) : Prop := w.cell? ⟨b, 0, none⟩ = some v ∧ b < w.heap.size
theorem like_any (p1 : Option Addr) (l1 c1 : Nat) (a : Nat → Vl) (p2 : Option Addr) (l2 c2 : Nat) (b : Nat → Vl) (p3 : Option Addr) (n c3 : Nat) (c : Nat → Int) (w : World) (b2 b3 : Nat) (x2 : Bx w b2 (.slice p2 l2 c2)) (x3 : Bx w b3 (.slice p3 n c3)) (h1 : VM w p1 l1 a) (h2 : VM w p2 l2 b) (h3 : IM w p3 n c) (hn : n ≤ 12) (hc : ∀ i, i < n → 0 ≤ c i ∧ c i < (l1 : Int) ∧ c i < (l2 : Int)) :
    Calls Tryd.prog 28 #[.slice p1 l1 c1, .pointer (some ⟨b2, 0, none⟩), .pointer (some ⟨b3, 0, none⟩)] w fun e w' => e = .returned (.bool (alk a b n c)) ∧ Gr w w' := by
  have H := alike_any p1 l1 c1 a p2 l2 c2 b p3 n c3 c w h1 h2 h3 hn hc
  obtain ⟨y2, -⟩ := x2
  obtain ⟨y3, -⟩ := x3
  clear h1 h2 h3 hc hn
  generalize alk a b n c = A at *
  go_enter Tryd.func28, Tryd.ntmps28
  go_wp2_with fail
  refine H.mono ?_
  rintro e w1 ⟨rfl, hb⟩
  have HB : Hid (Gr w w1) := hb
  clear hb H y2 y3
  go_wp2_with fail
  go_ret
  exact ⟨rfl, HB.out⟩
end Go.Proofs.YtehamdkjdbaceaaDoor.so
