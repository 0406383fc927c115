
/- The document's order of rows: which of two stands ahead, the columns of keys. Conditions: as each theorem says. -/
import Derived.Test.YtehamdkjdbaceaaDoorRd
import Derived.Test.YtehamdkjdbaceaaDoorUf
namespace Go.Proofs.YtehamdkjdbaceaaDoor.so
open Go.RowKit Go.Sort Go.Shelf
theorem rcmp_gr (x y : Vl) (w : World) : Calls Tryd.prog 33 #[V x.k x.n x.s, V y.k y.n y.s] w fun e w' => e = .returned (.int .i64 (x.cmp y)) ∧ Gr w w' := rcompare_any _ _ _ _ _ _ _
theorem cell_at2 {w : World} {g o : Nat} {v : Value} (hg : g < w.heap.size) (h : w.cell? ⟨g, o, none⟩ = some v) (n : Nat) (os : Array Obj) : (grow (w.drewN n) os).cell? ⟨g, o, none⟩ = some v := by
  have hb : Below w.heap.size w (grow (w.drewN n) os) := Gr.below ⟨n, os, rfl⟩
  rw [hb.cell (p := ⟨g, _, none⟩) hg]
  exact h
set_option maxRecDepth 100000 in
set_option maxHeartbeats 4000000 in
theorem rahead_any (p1 : Option Addr) (l1 c1 : Nat) (a : Nat → Vl) (p2 : Option Addr) (l2 c2 : Nat) (b : Nat → Vl) (p3 : Option Addr) (n c3 : Nat) (c : Nat → Int) (d : Nat → Bool) (w : World) (h1 : VM w p1 l1 a) (h2 : VM w p2 l2 b) (h3 : KM w p3 n c d) (hn : n ≤ 12) (hc : ∀ i, i < n → 0 ≤ c i ∧ c i < (l1 : Int) ∧ c i < (l2 : Int)) :
    Calls Tryd.prog 20 #[.slice p1 l1 c1, .slice p2 l2 c2, .slice p3 n c3] w fun e w' => e = .returned (.bool (decide (crw a b c d n 0 < 0))) ∧ Gr w w' := by
  have H1 : Hid (VM w p1 l1 a) := h1
  have H2 : Hid (VM w p2 l2 b) := h2
  have H3 : Hid (KM w p3 n c d) := h3
  have HC : Hid (∀ i, i < n → 0 ≤ c i ∧ c i < (l1 : Int) ∧ c i < (l2 : Int)) := hc
  clear h1 h2 h3 hc
  obtain ⟨A, hA⟩ : ∃ A, decide (crw a b c d n 0 < 0) = A := ⟨_, rfl⟩
  have HA : Hid (decide (crw a b c d n 0 < 0) = A) := hA
  rw [hA]
  clear hA
  have mixed := mixed
  go_enter Tryd.func20, Tryd.ntmps20
  go_wp2_with fail
  go_loopw [7] (fun i wr => ∃ j : Nat, i = .int .i64 j ∧ j ≤ n ∧ Hid (Gr w wr) ∧ Hid (decide (crw a b c d (n - j) j < 0) = A)) (fun i _ => n - (intOf i).toNat)
  case atStart => exact ⟨0, rfl, Nat.zero_le _, Gr.refl _, HA⟩
  case round =>
    obtain ⟨j, rfl, hj, HB, HD⟩ := hrel
    by_cases hlt : j < n
    · have hlt' : (j : Int) < (n : Int) := by omega
      have hj0 : (0 : Int) ≤ (j : Int) := by omega
      obtain ⟨hx0, hx1, hx2⟩ := HC.out j hlt
      rcases H3.out.next HB.out.below with h | ⟨g3, o3, rfl, hg3, h3⟩
      · omega
      obtain ⟨t, ht⟩ : ∃ t : Nat, c j = (t : Int) := ⟨(c j).toNat, by omega⟩
      have HX : Hid ((c j).toNat = t) := by show (c j).toNat = t; omega
      rw [ht] at hx0 hx1 hx2
      have y0 := fun m os => cell_at2 hg3 (h3 j hlt).1 m os
      have y1 := fun m os => cell_at2 hg3 (h3 j hlt).2 m os
      rw [ht] at y0
      obtain ⟨D, hD⟩ : ∃ D, d j = D := ⟨_, rfl⟩
      rw [hD] at y1
      have HDD : Hid (d j = D) := hD
      clear hD h3 hg3
      rcases H1.out.next HB.out.below with h | ⟨g1, o1, rfl, hg1, h1⟩
      · omega
      rcases H2.out.next HB.out.below with h | ⟨g2, o2, rfl, hg2, h2⟩
      · omega
      have z1 := fun m os => (vm_at hg1 h1 (i := t) (by omega) m os).1
      have z2 := fun m os => (vm_at hg1 h1 (i := t) (by omega) m os).2.1
      have z3 := fun m os => (vm_at hg1 h1 (i := t) (by omega) m os).2.2
      have x1 := fun m os => (vm_at hg2 h2 (i := t) (by omega) m os).1
      have x2 := fun m os => (vm_at hg2 h2 (i := t) (by omega) m os).2.1
      have x3 := fun m os => (vm_at hg2 h2 (i := t) (by omega) m os).2.2
      have hc := fun m os => rcmp_gr (a t) (b t) (grow (wr.drewN m) os)
      have HQ : Hid ((a (c j).toNat).cmp (b (c j).toNat) = (a t).cmp (b t) ∧ -1 ≤ (a t).cmp (b t) ∧ (a t).cmp (b t) ≤ 1) := ⟨by rw [HX.out], Vl.cmp_bd _ _⟩
      generalize (a t).cmp (b t) = q at *
      generalize a t = va at *
      generalize b t = vb at *
      obtain ⟨k1, n1, s1⟩ := va
      obtain ⟨k2, n2, s2⟩ := vb
      dsimp only at z1 z2 z3 x1 x2 x3 hc
      clear h1 h2 hg1 hg2 ht
      go_wp2_with fail
      go_quiet_grown (first | (go_at_call 33; refine Calls.grown_of (hc _ _)))
      have HB2 : Hid (Gr w (grow (wr.drewN nq) osq)) := HB.out.trans ⟨nq, osq, rfl⟩
      have hd := y1 nq osq
      clear z1 z2 z3 x1 x2 x3 hc y0 y1 HB
      generalize grow (wr.drewN nq) osq = w2 at *
      have HST : Hid (crw a b c d (n - j) j = if sg D q = 0 then crw a b c d (n - (j + 1)) (j + 1) else sg D q) := by
        show _ = _
        rw [show n - j = (n - (j + 1)) + 1 by omega, crw, HDD.out, HQ.out.1]
      have hq3 : q = -1 ∨ q = 0 ∨ q = 1 := by have := HQ.out.2; omega
      rcases hq3 with e | e | e <;> subst e <;> cases D
      all_goals first
        | (have HN : Hid (decide (crw a b c d (n - (j + 1)) (j + 1) < 0) = A) := by
            have h := HST.out
            have h2 := HD.out
            rw [if_pos (by decide)] at h
            rw [h] at h2
            exact h2
           clear HST
           go_wp2_with fail
           exact ⟨⟨j + 1, by simp, hlt, HB2, HN⟩, by simp [intOf]; omega⟩)
        | (have HN : Hid (A = true) := by
            have h := HST.out
            have h2 := HD.out
            rw [if_neg (by decide)] at h
            rw [h] at h2
            exact h2.symm.trans (by decide)
           clear HST
           go_wp2_with fail
           go_ret
           exact ⟨by rw [HN.out]; rfl, HB2.out⟩)
        | (have HN : Hid (A = false) := by
            have h := HST.out
            have h2 := HD.out
            rw [if_neg (by decide)] at h
            rw [h] at h2
            exact h2.symm.trans (by decide)
           clear HST
           go_wp2_with fail
           go_ret
           exact ⟨by rw [HN.out]; rfl, HB2.out⟩)
    · have hj2 : ¬ (j : Int) < (n : Int) := by omega
      have ej : j = n := by omega
      subst ej
      have HE : Hid (A = false) := by show A = false; rw [← HD.out, Nat.sub_self]; rfl
      go_wp2_with fail
      go_ret
      exact ⟨by rw [HE.out]; rfl, HB.out⟩
set_option maxRecDepth 100000 in
set_option maxHeartbeats 4000000 in
theorem rcols_any (p : Option Addr) (n cc : Nat) (c : Nat → Int) (d : Nat → Bool) (w : World) (hK : KM w p n c d) (hn : n ≤ 8796093022208) :
    Calls Tryd.prog 9 #[.slice p n cc] w fun e w' => ∃ v, e = .returned v ∧ IV w v (colsL c n) w' := by
  have HK : Hid (KM w p n c d) := hK
  clear hK
  go_enter Tryd.func9, Tryd.ntmps9
  go_wp2_with fail
  go_loopw [3, 4] (fun vl vi wr => ∃ j : Nat, vi = .int .i64 j ∧ j ≤ n ∧ Hid (IV w vl (colsL c j) wr)) (fun _ vi _ => n - (intOf vi).toNat)
  case atStart => exact ⟨0, rfl, Nat.zero_le _, IV.nil w⟩
  case round =>
    obtain ⟨j, rfl, hj, HV⟩ := hrel
    by_cases hlt : j < n
    · have hlt' : (j : Int) < (n : Int) := by omega
      have hj0 : (0 : Int) ≤ (j : Int) := by omega
      rcases HK.out.next HV.out.below with h | ⟨g, o, rfl, hg, h3⟩
      · omega
      obtain ⟨y0, -⟩ := h3 j hlt
      clear h3 hg
      obtain ⟨x, hx⟩ : ∃ x, c j = x := ⟨_, rfl⟩
      have HX : Hid (c j = x) := hx
      rw [hx] at y0
      clear hx
      obtain ⟨pv, cv, rfl, -⟩ := HV.out.im
      rw [colsL_len] at *
      obtain ⟨g2, cc2, w3, hr, hV3⟩ := HV.out.one (by rw [colsL_len]; omega) x
      rw [colsL_len] at hr hV3
      have HV3 : Hid (IV w (.slice (some ⟨g2, 0, none⟩) (j + 1) cc2) (colsL c (j + 1)) w3) := by rw [colsL_succ, HX.out]; exact hV3
      have HR : Hid ((Builtin.append_ #[24, 24] 24 #[.slice pv j cv, .slice (some ⟨wr.heap.size, 0, none⟩) 1 1]).run Tryd.prog (wr.alloc (.cells #[.int .i64 x] 3)) = .ok (.slice (some ⟨g2, 0, none⟩) (j + 1) cc2) w3) := hr
      clear hV3 hr HV
      go_wp2_with (first | (at_builtin; refine wpList_append_eq rfl _ _ 24 rfl _ _ _ _ rfl rfl HR.out ?_))
      exact ⟨⟨j + 1, by simp, hlt, HV3⟩, by simp [intOf]; omega⟩
    · have hj2 : ¬ (j : Int) < (n : Int) := by omega
      have ej : j = n := by omega
      subst ej
      go_wp2_with fail
      go_ret
      exact ⟨_, rfl, HV.out⟩
end Go.Proofs.YtehamdkjdbaceaaDoor.so
