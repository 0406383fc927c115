
/- Package sort: the columns of keys, and how two rows stand by keys. Conditions: as each theorem says. -/
import Derived.Test.YtehamdkjdbaceaaDoorSe
import Derived.Test.YtehamdkjdbaceaaDoorUa
namespace Go.Proofs.YtehamdkjdbaceaaDoor.so
open Go.RowKit Go.Sort Go.Shelf
/-- The columns of the first so many keys. -/
def colsL (c : Nat → Int) (n : Nat) : List Int := (List.range n).map c
theorem colsL_len (c : Nat → Int) (n : Nat) : (colsL c n).length = n := by simp [colsL]
theorem colsL_succ (c : Nat → Int) (n : Nat) : colsL c (n + 1) = colsL c n ++ [c n] := by simp [colsL, List.range_succ]
theorem colsL_at {c : Nat → Int} {n i : Nat} (h : i < n) : (colsL c n).getD i 0 = c i := by
  unfold colsL
  rw [List.getD_eq_getElem?_getD, List.getElem?_map, List.getElem?_range h]
  rfl
theorem IM.congr {w : World} {p : Option Addr} {n : Nat} {a b : Nat → Int} (h : IM w p n a) (e : ∀ i, i < n → a i = b i) : IM w p n b := by
  rcases h with h | ⟨g, o, h1, h2, h3⟩
  · exact .inl h
  · exact .inr ⟨g, o, h1, h2, fun i hi => by rw [← e i hi]; exact h3 i hi⟩
set_option maxRecDepth 100000 in
set_option maxHeartbeats 4000000 in
theorem columnsOf_any (p : Option Addr) (n cc : Nat) (c : Nat → Int) (d : Nat → Bool) (w : World) (hK : KM w p n c d) (hn : n ≤ 8796093022208) :
    Calls Tryd.prog 22 #[.slice p n cc] w fun e w' => ∃ v, e = .returned v ∧ IV w v (colsL c n) w' := by
  have HK : Hid (KM w p n c d) := hK
  clear hK
  go_enter Tryd.func22, Tryd.ntmps22
  go_wp2_with fail
  go_loopw [3, 8] (fun vl vi wr => ∃ j : Nat, vi = .int .i64 j ∧ j ≤ n ∧ Hid (IV w vl (colsL c j) wr)) (fun _ vi _ => n - (intOf vi).toNat)
  case atStart => exact ⟨0, rfl, Nat.zero_le _, IV.nil w⟩
  case round =>
    obtain ⟨j, rfl, hj, HV⟩ := hrel
    by_cases hlt : j < n
    · have hlt' : (j : Int) < (n : Int) := by omega
      have hj0 : (0 : Int) ≤ (j : Int) := by omega
      rcases HK.out.next HV.out.below with h | ⟨g, o, rfl, hg, h3⟩
      · omega
      obtain ⟨y0, y1⟩ := h3 j hlt
      clear h3 hg
      obtain ⟨x, hx⟩ : ∃ x, c j = x := ⟨_, rfl⟩
      obtain ⟨b, hb⟩ : ∃ b, d j = b := ⟨_, rfl⟩
      have HX : Hid (c j = x) := hx
      rw [hx] at y0
      rw [hb] at y1
      clear hx hb
      obtain ⟨pv, cv, rfl, -⟩ := HV.out.im
      rw [colsL_len] at *
      have HV2 := HV.out.next (Bw.al wr (.cells #[.int .i64 x, .bool b] 50))
      obtain ⟨g2, cc2, w3, hr, hV3⟩ := HV2.one (by rw [colsL_len]; omega) x
      rw [colsL_len] at hr hV3
      have HV3 : Hid (IV w (.slice (some ⟨g2, 0, none⟩) (j + 1) cc2) (colsL c (j + 1)) w3) := by rw [colsL_succ, HX.out]; exact hV3
      have e1 : (wr.alloc (.cells #[.int .i64 x, .bool b] 50)).heap.size = wr.heap.size + 1 := by simp
      rw [e1] at hr
      have HR : Hid ((Builtin.append_ #[24, 24] 24 #[.slice pv j cv, .slice (some ⟨wr.heap.size + 1, 0, none⟩) 1 1]).run Tryd.prog ((wr.alloc (.cells #[.int .i64 x, .bool b] 50)).alloc (.cells #[.int .i64 x] 3)) = .ok (.slice (some ⟨g2, 0, none⟩) (j + 1) cc2) w3) := hr
      clear hV3 HV2 hr HV e1
      go_wp2_with (first | (at_builtin; refine wpList_append_eq rfl _ _ 24 rfl _ _ _ _ rfl rfl HR.out ?_))
      exact ⟨⟨j + 1, by simp, hlt, HV3⟩, by simp [intOf]; omega⟩
    · have hj2 : ¬ (j : Int) < (n : Int) := by omega
      have ej : j = n := by omega
      subst ej
      go_wp2_with fail
      go_ret
      exact ⟨_, rfl, HV.out⟩
set_option maxRecDepth 100000 in
set_option maxHeartbeats 4000000 in
theorem compareRows_any (p1 : Option Addr) (l1 c1 : Nat) (a : Nat → Vl) (p2 : Option Addr) (l2 c2 : Nat) (b : Nat → Vl) (p3 : Option Addr) (n c3 : Nat) (c : Nat → Int) (d : Nat → Bool) (w : World) (h1 : VM w p1 l1 a) (h2 : VM w p2 l2 b) (h3 : KM w p3 n c d) (hn : n ≤ 12) (hc : ∀ i, i < n → 0 ≤ c i ∧ c i < (l1 : Int) ∧ c i < (l2 : Int)) :
    Calls Tryd.prog 25 #[.slice p1 l1 c1, .slice p2 l2 c2, .slice p3 n c3] w fun e w' => e = .returned (.int .i64 (crw a b c d n 0)) ∧ Gr w w' := by
  have H1 : Hid (VM w p1 l1 a) := h1
  have H2 : Hid (VM w p2 l2 b) := h2
  have H3 : Hid (KM w p3 n c d) := h3
  have HC : Hid (∀ i, i < n → 0 ≤ c i ∧ c i < (l1 : Int) ∧ c i < (l2 : Int)) := hc
  clear h1 h2 h3 hc
  obtain ⟨A, hA⟩ : ∃ A, crw a b c d n 0 = A := ⟨_, rfl⟩
  have HA : Hid (crw a b c d n 0 = A) := hA
  rw [hA]
  clear hA
  have mixed := mixed
  go_enter Tryd.func25, Tryd.ntmps25
  go_wp2_with fail
  go_loopw [12] (fun i wr => ∃ j : Nat, i = .int .i64 j ∧ j ≤ n ∧ Hid (Gr w wr) ∧ Hid (crw a b c d (n - j) j = A)) (fun i _ => n - (intOf i).toNat)
  case atStart => exact ⟨0, rfl, Nat.zero_le _, Gr.refl _, HA⟩
  case round =>
    obtain ⟨j, rfl, hj, HB, HD⟩ := hrel
    by_cases hlt : j < n
    · have hlt' : (j : Int) < (n : Int) := by omega
      have hj0 : (0 : Int) ≤ (j : Int) := by omega
      obtain ⟨hx0, hx1, hx2⟩ := HC.out j hlt
      rcases H3.out.next HB.out.below with h | ⟨g3, o3, rfl, hg3, h3⟩
      · omega
      obtain ⟨y0, y1⟩ := h3 j hlt
      clear h3 hg3
      obtain ⟨t, ht⟩ : ∃ t : Nat, c j = (t : Int) := ⟨(c j).toNat, by omega⟩
      have HX : Hid ((c j).toNat = t) := by show (c j).toNat = t; omega
      rw [ht] at y0 hx0 hx1 hx2
      obtain ⟨D, hD⟩ : ∃ D, d j = D := ⟨_, rfl⟩
      rw [hD] at y1
      have HDD : Hid (d j = D) := hD
      clear hD
      have hal : Gr wr (wr.alloc (.cells #[.int .i64 (t : Int), .bool D] 50)) := (Gr.refl _).alloc _
      have HBK : Hid (Gr w (wr.alloc (.cells #[.int .i64 (t : Int), .bool D] 50))) := HB.out.trans hal
      rcases H1.out.next HBK.out.below with h | ⟨g1, o1, rfl, hg1, h1⟩
      · omega
      rcases H2.out.next HBK.out.below with h | ⟨g2, o2, rfl, hg2, h2⟩
      · omega
      have z1 := fun m os => (vm_at hg1 h1 (i := t) (by omega) m os).1
      have z2 := fun m os => (vm_at hg1 h1 (i := t) (by omega) m os).2.1
      have z3 := fun m os => (vm_at hg1 h1 (i := t) (by omega) m os).2.2
      have x1 := fun m os => (vm_at hg2 h2 (i := t) (by omega) m os).1
      have x2 := fun m os => (vm_at hg2 h2 (i := t) (by omega) m os).2.1
      have x3 := fun m os => (vm_at hg2 h2 (i := t) (by omega) m os).2.2
      have hc := fun m os => vcmp_gr (a t) (b t) (grow ((wr.alloc (.cells #[.int .i64 (t : Int), .bool D] 50)).drewN m) os)
      have hk0 : ∀ m os, (grow ((wr.alloc (.cells #[.int .i64 (t : Int), .bool D] 50)).drewN m) os).cell? ⟨wr.heap.size, 0, none⟩ = some (.int .i64 (t : Int)) := fun m os => by
        have hb : Below (wr.alloc (.cells #[.int .i64 (t : Int), .bool D] 50)).heap.size (wr.alloc (.cells #[.int .i64 (t : Int), .bool D] 50)) (grow ((wr.alloc (.cells #[.int .i64 (t : Int), .bool D] 50)).drewN m) os) := Gr.below ⟨m, os, rfl⟩
        rw [hb.cell (p := ⟨wr.heap.size, 0, none⟩) (by simp)]
        simp
      have hk1 : ∀ m os, (grow ((wr.alloc (.cells #[.int .i64 (t : Int), .bool D] 50)).drewN m) os).cell? ⟨wr.heap.size, 1, none⟩ = some (.bool D) := fun m os => by
        have hb : Below (wr.alloc (.cells #[.int .i64 (t : Int), .bool D] 50)).heap.size (wr.alloc (.cells #[.int .i64 (t : Int), .bool D] 50)) (grow ((wr.alloc (.cells #[.int .i64 (t : Int), .bool D] 50)).drewN m) os) := Gr.below ⟨m, os, rfl⟩
        rw [hb.cell (p := ⟨wr.heap.size, 1, none⟩) (by simp)]
        simp
      have HQ : Hid ((a (c j).toNat).cmp (b (c j).toNat) = (a t).cmp (b t) ∧ -1 ≤ (a t).cmp (b t) ∧ (a t).cmp (b t) ≤ 1) := ⟨by rw [HX.out], Vl.cmp_bd _ _⟩
      generalize (a t).cmp (b t) = q at *
      generalize a t = va at *
      generalize b t = vb at *
      obtain ⟨k1, n1, s1⟩ := va
      obtain ⟨k2, n2, s2⟩ := vb
      dsimp only at z1 z2 z3 x1 x2 x3 hc
      clear h1 h2 hg1 hg2 ht HB hal
      go_upto_region 4 with fail
      generalize wr.alloc (.cells #[.int .i64 (t : Int), .bool D] 50) = wa at *
      go_quiet_grown (first | (go_at_call 36; refine Calls.grown_of (hc _ _)))
      have HB2 : Hid (Gr w (grow (wa.drewN nq) osq)) := HBK.out.trans ⟨nq, osq, rfl⟩
      have hd := hk1 nq osq
      clear z1 z2 z3 x1 x2 x3 hc hk0 hk1 HBK
      generalize grow (wa.drewN nq) osq = w2 at *
      have HST : Hid (crw a b c d (n - j) j = if sg D q = 0 then crw a b c d (n - (j + 1)) (j + 1) else sg D q) := by
        show _ = _
        rw [show n - j = (n - (j + 1)) + 1 by omega, crw, HDD.out, HQ.out.1]
      have hq3 : q = -1 ∨ q = 0 ∨ q = 1 := by have := HQ.out.2; omega
      rcases hq3 with e | e | e <;> subst e <;> cases D
      all_goals first
        | (have HN : Hid (crw a b c d (n - (j + 1)) (j + 1) = A) := by
            have h := HST.out
            rw [HD.out, if_pos (by decide)] at h
            exact h.symm
           clear HST
           go_wp2_with fail
           exact ⟨⟨j + 1, by simp, hlt, HB2, HN⟩, by simp [intOf]; omega⟩)
        | (have HN : Hid (A = 1) := by
            have h := HST.out
            rw [HD.out, if_neg (by decide)] at h
            exact h
           clear HST
           go_wp2_with fail
           go_ret
           exact ⟨by rw [HN.out]; rfl, HB2.out⟩)
        | (have HN : Hid (A = -1) := by
            have h := HST.out
            rw [HD.out, if_neg (by decide)] at h
            exact h
           clear HST
           go_wp2_with fail
           go_ret
           exact ⟨by rw [HN.out]; rfl, HB2.out⟩)
    · have hj2 : ¬ (j : Int) < (n : Int) := by omega
      have ej : j = n := by omega
      subst ej
      have HE : Hid (A = 0) := by show A = 0; rw [← HD.out, Nat.sub_self]; rfl
      go_wp2_with fail
      go_ret
      exact ⟨by rw [HE.out]; rfl, HB.out⟩
end Go.Proofs.YtehamdkjdbaceaaDoor.so
