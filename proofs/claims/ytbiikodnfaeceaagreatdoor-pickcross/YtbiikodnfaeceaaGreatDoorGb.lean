
/- Package pick: how many rows at the head of an order are alike. Conditions: as each theorem says. -/
import Derived.Test.YtbiikodnfaeceaaGreatDoorGa
import Derived.Laws.EntriesVeiled
import Derived.Deep.RegionHeld3
namespace Go.Proofs.YtbiikodnfaeceaaGreatDoor.so
open Go.RowKit Go.Sort Go.Shelf
theorem Bx.next {w w' : World} {b : Nat} {v : Value} (h : Bx w b v) (hb : Bw w w') : Bx w' b v := ⟨(hb.cell (p := ⟨b, 0, none⟩) h.2).trans h.1, Nat.lt_of_lt_of_le h.2 hb.size⟩
/-- Where a list of one's own lies. -/
def At (lo hi n : Nat) (p : Option Addr) : Prop := n = 0 ∨ ∃ g, p = some ⟨g, 0, none⟩ ∧ lo ≤ g ∧ g < hi
theorem VV.vm2 {w : World} {v : Value} {xs : List Vl} {wx : World} (h : VV w v xs wx) : ∃ p c, v = .slice p xs.length c ∧ VM wx p xs.length (nthV xs) ∧ At w.heap.size wx.heap.size xs.length p := by
  obtain ⟨p, c, rfl, h1, h2⟩ := h.vm
  refine ⟨p, c, rfl, h1, ?_⟩
  by_cases h0 : xs.length = 0
  · exact .inl h0
  · obtain ⟨g, rfl⟩ := h2 (by omega)
    have := h.own.lt g rfl
    exact .inr ⟨g, rfl, this.1, this.2⟩
theorem valuesIn_at (p1 : Option Addr) (l1 c1 : Nat) (r : Nat → Vl) (p : Option Addr) (n cc : Nat) (c : Nat → Int) (w : World) (hR : VM w p1 l1 r) (hI : IM w p n c) (hn : n ≤ 12) (hc : ∀ i, i < n → 0 ≤ c i ∧ c i < (l1 : Int)) :
    Calls Tryz.prog 22 #[.slice p1 l1 c1, .slice p n cc] w fun e w' => ∃ pv cv, e = .returned (.slice pv n cv) ∧ VM w' pv n (fun i => r (c i).toNat) ∧ At w.heap.size w'.heap.size n pv ∧ Bw w w' := by
  refine (valuesIn_any p1 l1 c1 r p n cc c w hR hI hn hc).mono ?_
  rintro e w' ⟨v, rfl, hv⟩
  obtain ⟨pv, cv, rfl, h1, h2⟩ := hv.vm2
  rw [keyL_len] at h1 h2 ⊢
  refine ⟨pv, cv, rfl, ?_, h2, hv.below⟩
  rcases h1 with h1 | ⟨g, o, e, hg, h3⟩
  · exact .inl h1
  · refine .inr ⟨g, o, e, hg, fun i hi => ?_⟩
    have := h3 i hi
    rw [keyL_at r c hi] at this
    exact this
/-- Do two lists of values stand alike? -/
def eqK (a b : Nat → Vl) (n : Nat) : Bool := (List.range n).all fun i => (a i).cmp (b i) == 0
theorem eqK_true {a b : Nat → Vl} {n : Nat} : eqK a b n = true ↔ ∀ i, i < n → (a i).cmp (b i) = 0 := by unfold eqK; simp
theorem eqK_false {a b : Nat → Vl} {n i : Nat} (hi : i < n) (h : (a i).cmp (b i) ≠ 0) : eqK a b n = false := by
  cases e : eqK a b n with
  | false => rfl
  | true => exact absurd (eqK_true.1 e i hi) h
theorem vcmp_bw (x y : Vl) (w : World) : Calls Tryz.prog 41 #[V x.k x.n x.s, V y.k y.n y.s] w fun e w' => e = .returned (.int .i64 (x.cmp y)) ∧ Bw w w' := by
  refine (vcmp_gr x y w).mono ?_
  rintro e w' ⟨h1, h2⟩
  exact ⟨h1, h2.below⟩
set_option maxRecDepth 100000 in
set_option maxHeartbeats 4000000 in
theorem compareF_any (p1 : Option Addr) (c1 : Nat) (a : Nat → Vl) (p2 : Option Addr) (c2 : Nat) (b : Nat → Vl) (n : Nat) (hn : n ≤ 12) (w : World) (h1 : VM w p1 n a) (h2 : VM w p2 n b) :
    Calls Tryz.prog 51 #[.slice p1 n c1, .slice p2 n c2, .func (.func 41) #[] #[]] w fun e w' => (∃ x : Int, e = .returned (.int .i64 x) ∧ (x == 0) = eqK a b n) ∧ Bw w w' := by
  have H1 : Hid (VM w p1 n a) := h1
  have H2 : Hid (VM w p2 n b) := h2
  have HC : Hid (∀ (x y : Vl) wx, Calls Tryz.prog 41 #[V x.k x.n x.s, V y.k y.n y.s] wx fun e w' => e = .returned (.int .i64 (x.cmp y)) ∧ Bw wx w') := vcmp_bw
  clear h1 h2
  go_enter Tryz.func51, Tryz.ntmps51
  go_wp2_with fail
  go_loopw [13] (fun i wr => ∃ j : Nat, i = .int .i64 j ∧ j ≤ n ∧ Hid (Bw w wr) ∧ Hid (∀ i, i < j → (a i).cmp (b i) = 0)) (fun i _ => n - (intOf i).toNat)
  case atStart => exact ⟨0, rfl, Nat.zero_le _, Below.refl _ _, fun i hi => absurd hi (Nat.not_lt_zero _)⟩
  case round =>
    obtain ⟨j, rfl, hj, HB, HD⟩ := hrel
    by_cases hlt : j < n
    · have hlt' : (j : Int) < (n : Int) := by omega
      have hge : ¬ (j : Int) ≥ (n : Int) := by omega
      have hge' : decide ((j : Int) ≥ (n : Int)) = false := by simp; omega
      have hj0 : (0 : Int) ≤ (j : Int) := by omega
      rcases H1.out.next HB.out with h | ⟨g1, o1, rfl, hg1, h1⟩
      · omega
      rcases H2.out.next HB.out with h | ⟨g2, o2, rfl, hg2, h2⟩
      · omega
      obtain ⟨z0, z1, z2⟩ := h1 j hlt
      obtain ⟨x0, x1, x2⟩ := h2 j hlt
      clear h1 h2
      have HW := HC.out (a j) (b j)
      obtain ⟨q, hq⟩ : ∃ q, (a j).cmp (b j) = q := ⟨_, rfl⟩
      have HQ : Hid ((a j).cmp (b j) = q) := hq
      rw [hq] at HW
      clear hq
      obtain ⟨xa, ha⟩ : ∃ x, a j = x := ⟨_, rfl⟩
      obtain ⟨xb, hb⟩ : ∃ x, b j = x := ⟨_, rfl⟩
      rw [ha] at HW z0 z1 z2
      rw [hb] at HW x0 x1 x2
      clear ha hb
      obtain ⟨ak, an, ast⟩ := xa
      obtain ⟨bk', bn, bs⟩ := xb
      dsimp only at HW z0 z1 z2 x0 x1 x2
      have hbA := Bw.al wr (.cells #[.int .i64 ak, .int .i64 an, .string ast] 36)
      have x0' := (hbA.cell (p := ⟨g2, _, none⟩) hg2).trans x0
      have x1' := (hbA.cell (p := ⟨g2, _, none⟩) hg2).trans x1
      have x2' := (hbA.cell (p := ⟨g2, _, none⟩) hg2).trans x2
      clear x0 x1 x2 hbA hg1 hg2
      go_wp2_with fail
      refine (HW _).mono ?_
      clear HW z0 z1 z2 x0' x1' x2'
      rintro e w1 ⟨rfl, hb1⟩
      have HB1 : Hid (Bw w w1) := HB.out.tr (((Bw.al _ _).tr (Bw.al _ _)).tr hb1)
      clear hb1 HB
      by_cases hq0 : q = 0
      · subst hq0
        go_wp2_with fail
        exact ⟨⟨j + 1, by simp, hlt, HB1, fun i hi => by
          by_cases e : i = j
          · subst e; exact HQ.out
          · exact HD.out i (by omega)⟩, by simp [intOf]; omega⟩
      · have hq' : (q != 0) = true := by simp; exact hq0
        have HF : Hid ((q == 0) = eqK a b n) := by show _ = _; rw [eqK_false hlt (by rw [HQ.out]; exact hq0)]; simp; exact hq0
        clear hq0
        go_wp2_with fail
        go_ret
        exact ⟨⟨q, rfl, HF.out⟩, HB1.out⟩
    · have hj2 : ¬ (j : Int) < (n : Int) := by omega
      have hnn : ¬ (n : Int) < (n : Int) := by omega
      have ej : j = n := by omega
      subst ej
      go_wp2_with fail
      go_ret
      exact ⟨⟨0, rfl, by rw [eqK_true.2 HD.out]; rfl⟩, HB.out⟩
abbrev fhk (b : Nat) : Value := .func (.func 50) #[] #[.pointer (some ⟨b, 0, none⟩)]
theorem hasKey_any (p : Option Addr) (n c : Nat) (w : World) : Calls Tryz.prog 35 #[.slice p n c] w fun e w' => e = .returned (fhk w.heap.size) ∧ w' = w.alloc (.cells #[.slice p n c] 34) := by
  go_enter Tryz.func35, Tryz.ntmps35
  go_wp2_with fail
  go_ret
  exact ⟨rfl, rfl⟩
set_option maxRecDepth 100000 in
theorem hasKey1_any (p1 : Option Addr) (c1 : Nat) (a : Nat → Vl) (p2 : Option Addr) (c2 : Nat) (b : Nat → Vl) (n : Nat) (hn : n ≤ 12) (bk' : Nat) (w : World) (h1 : VM w p1 n a) (h2 : VM w p2 n b) (hx : Bx w bk' (.slice p2 n c2)) :
    Calls Tryz.prog 50 #[.slice p1 n c1, .pointer (some ⟨bk', 0, none⟩)] w fun e w' => e = .returned (.bool (eqK a b n)) ∧ Bw w w' := by
  have H : Hid (Calls Tryz.prog 51 #[.slice p1 n c1, .slice p2 n c2, .func (.func 41) #[] #[]] w fun e w' => (∃ x : Int, e = .returned (.int .i64 x) ∧ (x == 0) = eqK a b n) ∧ Bw w w') := compareF_any p1 c1 a p2 c2 b n hn w h1 h2
  obtain ⟨y0, -⟩ := hx
  clear h1 h2
  obtain ⟨E, hE⟩ : ∃ E, eqK a b n = E := ⟨_, rfl⟩
  rw [hE] at H ⊢
  clear hE
  go_enter Tryz.func50, Tryz.ntmps50
  go_wp2_with fail
  refine H.out.mono ?_
  clear H y0
  rintro e w1 ⟨⟨x, rfl, hx⟩, hb⟩
  have HX : Hid ((x == 0) = E) := hx
  have HB : Hid (Bw w w1) := hb
  clear hx hb
  go_wp2_with fail
  go_ret
  exact ⟨by rw [← HX.out]; rfl, HB.out⟩
end Go.Proofs.YtbiikodnfaeceaaGreatDoor.so
