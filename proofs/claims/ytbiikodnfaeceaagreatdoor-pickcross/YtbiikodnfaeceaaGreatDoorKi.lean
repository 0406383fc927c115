
/- The law PickCross, its loops. Conditions: as each theorem says. -/
import Derived.Test.YtbiikodnfaeceaaGreatDoorHa
import Derived.Test.YtbiikodnfaeceaaGreatDoorRh
import Derived.Test.YtbiikodnfaeceaaGreatDoorOq
import Derived.Test.YtbiikodnfaeceaaGreatDoorRc
import Derived.Test.YtbiikodnfaeceaaGreatDoorKg
import Derived.Test.YtbiikodnfaeceaaGreatDoorGv

/- The document's Heads, walked. Conditions: as each theorem says. -/
namespace Go.Proofs.YtbiikodnfaeceaaGreatDoor.so
open Go.RowKit Go.Sort Go.Shelf
def HDO (T : Tb) (k : Nat) (w : World) (e : Ending) (w' : World) : Prop := ∃ v, e = .returned v ∧ ∃ W hs, Hds T k hs ∧ VV W v hs w' ∧ Bw w W
set_option maxRecDepth 1000000 in
set_option maxHeartbeats 8000000 in
theorem rheads_any (T : Tb) (p : Option Addr) (cp k : Nat) (w : World) (hT : TM w p T) (hS : Snd T) (hx : colOk T (k : Int)) :
    Calls Tryz.prog 11 #[.slice p T.q cp, .int .i64 (k : Int)] w fun e w' => HDO T k w e w' := by
  have HT : Hid (TM w p T) := hT
  have HS : Hid (Snd T) := hS
  have HX : Hid (colOk T (k : Int)) := hx
  have hso := rsort_any T p cp (some ⟨w.heap.size, 0, none⟩) 1 1 (fun _ => (k : Int)) (fun _ => false) (w.alloc (.cells #[.int .i64 (k : Int), .bool false] 48)) (hT.next (Bw.al _ _)) (.inr ⟨w.heap.size, 0, rfl, by simp, fun i hi => by
    have : i = 0 := by omega
    subst this
    have hb := heap_alloc_new w (.cells #[.int .i64 (k : Int), .bool false] 48)
    exact ⟨by simp only [World.cell?, Nat.zero_mul, Nat.zero_add, hb]; rfl, by simp only [World.cell?, Nat.zero_mul, Nat.zero_add, hb]; rfl⟩⟩) hS (by omega) (fun i _ => hx)
  have HB0 : Hid (Bw w (w.alloc (.cells #[.int .i64 (k : Int), .bool false] 48))) := Bw.al _ _
  have hq60 := hS.few
  obtain ⟨q, eq⟩ : ∃ q, T.q = q := ⟨_, rfl⟩
  have HEQ : Hid (T.q = q) := eq
  rw [eq] at hso hq60 ⊢
  clear hT hS hx eq
  have mixed := mixed
  have tM := tM
  go_enter Tryz.func11, Tryz.ntmps11
  go_upto_region 3 with fail
  refine hso.mono ?_
  clear hso
  rintro e w1 ⟨vl, rfl, Z, hst, hiv⟩
  have HST : Hid (StN T 1 (fun _ => (k : Int)) (fun _ => false) Z) := hst
  have HB1 : Hid (Bw w w1) := HB0.out.tr hiv.below
  have hZl : Z.length = q := by rw [← HEQ.out, hst.1.length_eq]; simp
  obtain ⟨pl, cl, el, himl⟩ := hiv.im
  rw [List.length_map, hZl] at el himl
  subst el
  have HL : Hid (IM w1 pl q (nthN Z)) := himl
  clear hst hiv himl HB0
  go_wp2_with fail
  go_loopw [5, 7] (fun s5 s7 wr => ∃ i : Nat, s7 = .int .i64 i ∧ i ≤ q ∧ Hid (VV w1 s5 (ddL ((Z.take i).map fun j => T.v j k)) wr)) (fun _ s7 _ => q - (intOf s7).toNat)
  case atStart => exact ⟨0, rfl, Nat.zero_le _, VV.nil _⟩
  case round =>
    obtain ⟨i, rfl, hi, HV⟩ := hrel
    by_cases hlt : i < q
    · have hlt' : (i : Int) < (q : Int) := by omega
      have hi0 : (0 : Int) ≤ (i : Int) := by omega
      obtain ⟨z, hz⟩ : ∃ z, Z[i]? = some z := ⟨_, List.getElem?_eq_getElem (by omega)⟩
      have hZI : (Z.take (i + 1)).map (fun j => T.v j k) = (Z.take i).map (fun j => T.v j k) ++ [T.v z k] := by
        rw [List.take_succ_eq_append_getElem (by omega), (List.getElem?_eq_some_iff.1 hz).2, List.map_append]
        rfl
      have HZN : Hid (nthN Z i = (z : Int)) := by
        show _ = _
        rw [nthN_at2 (by omega), (List.getElem?_eq_some_iff.1 hz).2]
      have hzT : z < T.q := List.mem_range.1 (HST.out.1.mem_iff.1 (List.mem_of_getElem? hz))
      have hzq : (z : Int) < (q : Int) := by have := HEQ.out; omega
      have hz0 : (0 : Int) ≤ (z : Int) := by omega
      have hkL := (HS.out.col HX.out hzT).2.2.1
      rw [Int.toNat_natCast] at hkL
      have HDN : Hid (ddL ((Z.take (i + 1)).map fun j => T.v j k) = ddS (ddL ((Z.take i).map fun j => T.v j k)) (T.v z k)) := by show _ = _; rw [hZI, ddL_snoc]
      have hdl := ddL_len ((Z.take i).map fun j => T.v j k)
      rw [List.length_map, List.length_take] at hdl
      have hbw := HV.out.below
      rcases HL.out.next hbw with h | ⟨gl, ol, rfl, hgl, hl3⟩
      · omega
      have y0 := hl3 i hlt
      rw [HZN.out] at y0
      rcases HT.out.next (HB1.out.tr hbw) with h | ⟨gt, ot, rfl, hgt, ht3⟩
      · omega
      obtain ⟨y1, hvm⟩ := ht3 z hzT
      rcases hvm with h | ⟨g1, o1, e1, hg1, hv3⟩
      · omega
      rw [e1] at y1
      obtain ⟨y2, y3, y4⟩ := hv3 k hkL
      have hk0 : (0 : Int) ≤ (k : Int) := by omega
      have hk1 : (k : Int) < (T.L z : Int) := by omega
      generalize T.L z = lz at *
      generalize T.C z = cz at *
      generalize ddL ((Z.take i).map fun j => T.v j k) = O at *
      obtain ⟨x, hx⟩ : ∃ x, T.v z k = x := ⟨_, rfl⟩
      rw [hx] at y2 y3 y4 HDN
      clear hx hl3 ht3 hv3 e1 hZI hz hgl hgt hg1 hbw hzT hkL
      obtain ⟨xk, xn, xs⟩ := x
      dsimp only at y2 y3 y4
      have HV1 : Hid (VV w1 u5 O (wr.alloc (.cells #[.int .i64 xk, .int .i64 xn, .string xs] 36))) := HV.out.next (Bw.al _ _)
      have HBX : Hid ((wr.alloc (.cells #[.int .i64 xk, .int .i64 xn, .string xs] 36)).heap[wr.heap.size]? = some (.cells #[.int .i64 xk, .int .i64 xn, .string xs] 36 (0, 0))) := heap_alloc_new _ _
      clear HV
      go_upto_region 7 with fail
      clear y0 y1 y2 y3 y4
      obtain ⟨bx, hbx⟩ : ∃ bx, wr.heap.size = bx := ⟨_, rfl⟩
      rw [hbx] at HBX ⊢
      clear hbx
      generalize wr.alloc (.cells #[.int .i64 xk, .int .i64 xn, .string xs] 36) = w3 at *
      obtain ⟨pv, cv, e5, hvm, -⟩ := HV1.out.vm
      subst e5
      obtain ⟨B, hBe, hBv⟩ : ∃ B : Bool, (B = true → ddS O ⟨xk, xn, xs⟩ = O ++ [⟨xk, xn, xs⟩]) ∧ (B = false → ddS O ⟨xk, xn, xs⟩ = O) ∧ ((O.length = 0 ∧ B = true) ∨ ∃ m t, O.length = m + 1 ∧ nthV O m = t ∧ B = !(vlEq t ⟨xk, xn, xs⟩)) := by
        cases hl : O.getLast? with
        | none =>
          have e0 : O = [] := List.getLast?_eq_none_iff.1 hl
          subst e0
          exact ⟨true, fun _ => rfl, (fun h => by cases h), .inl ⟨rfl, rfl⟩⟩
        | some t =>
          obtain ⟨O', hO⟩ := List.getLast?_eq_some_iff.1 hl
          refine ⟨!(vlEq t ⟨xk, xn, xs⟩), fun h => ddS_no hl (by simpa using h), fun h => ddS_yes hl (by simpa using h), .inr ⟨O'.length, t, by rw [hO]; simp, by rw [hO]; unfold nthV; simp, rfl⟩⟩
      obtain ⟨hBn, hBc⟩ := hBv
      have HBE : Hid (B = true → ddS O ⟨xk, xn, xs⟩ = O ++ [⟨xk, xn, xs⟩]) := hBe
      have HBN : Hid (B = false → ddS O ⟨xk, xn, xs⟩ = O) := hBn
      have HBC : Hid ((O.length = 0 ∧ B = true) ∨ ∃ m t, O.length = m + 1 ∧ nthV O m = t ∧ B = !(vlEq t ⟨xk, xn, xs⟩)) := hBc
      have HVM : Hid (VM w3 pv O.length (nthV O)) := hvm
      clear hBe hBn hBc hvm
      obtain ⟨ol', hol⟩ : ∃ ol', O.length = ol' := ⟨_, rfl⟩
      have HOL : Hid (O.length = ol') := hol
      rw [hol] at HBC HVM HV1 hdl ⊢
      clear hol
      have hol60 : ol' ≤ 60 := by omega
      clear hdl
      go_cut [42] (fun s42 wx => s42 = .bool B ∧ Hid (Bw w3 wx))
      case first =>
        rcases HBC.out with ⟨rfl, hB⟩ | ⟨m, t, rfl, ht, hB⟩
        · subst hB
          go_quiet (fail)
          have HB2 : Hid (Bw w3 (w3.drewN nq)) := Bw.drewN _ _
          generalize w3.drewN nq = w4 at *
          go_wp2_with fail
          go_meet
          case rel => exact ⟨rfl, HB2⟩
        · rcases HVM.out with h | ⟨g, o, rfl, hg, h3⟩
          · omega
          obtain ⟨a0, a1, a2⟩ := h3 m (by omega)
          rw [ht] at a0 a1 a2
          obtain ⟨tk, tn, ts⟩ := t
          dsimp only at a0 a1 a2
          obtain ⟨⟨b0, b1, b2⟩, -⟩ := cells3 HBX.out
          have a0q : ∀ n, (w3.drewN n).cell? ⟨g, o + m * 3, none⟩ = some (.int .i64 tk) := fun n => a0
          have a1q : ∀ n, (w3.drewN n).cell? ⟨g, o + m * 3 + 1, none⟩ = some (.int .i64 tn) := fun n => a1
          have a2q : ∀ n, (w3.drewN n).cell? ⟨g, o + m * 3 + 2, none⟩ = some (.string ts) := fun n => a2
          have b0q : ∀ n, (w3.drewN n).cell? ⟨bx, 0, none⟩ = some (.int .i64 xk) := fun n => b0
          have b1q : ∀ n, (w3.drewN n).cell? ⟨bx, 1, none⟩ = some (.int .i64 xn) := fun n => b1
          have b2q : ∀ n, (w3.drewN n).cell? ⟨bx, 2, none⟩ = some (.string xs) := fun n => b2
          have hne : ∀ W, (binOp BinOp.neq 36 (V tk tn ts) (V xk xn xs)).run Tryz.prog W = .ok (.bool B) W := fun W => by rw [neqV, hB]; rfl
          have hm0 : (((m + 1 : Nat) : Int) == 0) = false := by simp; omega
          have hm1 : ((m : Int) + 1 == 0) = false := by simp; omega
          have hm2 : (0 : Int) ≤ (m : Int) := by omega
          have hm3 : (m : Int) < (m : Int) + 1 := by omega
          clear a0 a1 a2 b0 b1 b2 h3 hg hB ht
          go_quiet (fail)
          have HB2 : Hid (Bw w3 (w3.drewN nq)) := Bw.drewN _ _
          clear a0q a1q a2q b0q b1q b2q hne
          generalize w3.drewN nq = w4 at *
          go_wp2_with fail
          go_meet
          case rel => exact ⟨rfl, HB2⟩
      case rest =>
      obtain ⟨rfl, HB2⟩ := hcut
      apply_assumption
      have HV4 : Hid (VV w1 (.slice pv ol' cv) O wc) := HV1.out.next HB2.out
      have HBX4 : Hid (wc.heap[bx]? = some (.cells #[.int .i64 xk, .int .i64 xn, .string xs] 36 (0, 0))) := bk HBX.out HB2.out
      clear HV1 HB2 HBX HVM HBC
      cases B with
      | false =>
        have HE : Hid (VV w1 (.slice pv ol' cv) (ddL ((Z.take (i + 1)).map fun j => T.v j k)) wc) := by show VV _ _ _ _; rw [HDN.out, HBN.out rfl]; exact HV4.out
        go_wp2_with fail
        exact ⟨⟨i + 1, by simp, hlt, HE⟩, by simp [intOf]; omega⟩
      | true =>
        obtain ⟨g2, cc2, w5, hr, hV5⟩ := HV4.out.one (by rw [HOL.out]; omega) ⟨xk, xn, xs⟩
        rw [HOL.out] at hr hV5
        have HE : Hid (VV w1 (.slice (some ⟨g2, 0, none⟩) (ol' + 1) cc2) (ddL ((Z.take (i + 1)).map fun j => T.v j k)) w5) := by show VV _ _ _ _; rw [HDN.out, HBE.out rfl]; exact hV5
        dsimp only at hr
        have HRR : Hid ((Builtin.append_ #[34, 34] 34 #[.slice pv ol' cv, .slice (some ⟨wc.heap.size, 0, none⟩) 1 1]).run Tryz.prog (wc.alloc (.cells #[.int .i64 xk, .int .i64 xn, .string xs] 36)) = .ok (.slice (some ⟨g2, 0, none⟩) (ol' + 1) cc2) w5) := hr
        obtain ⟨⟨b0, b1, b2⟩, -⟩ := cells3 HBX4.out
        clear hr hV5 HV4
        go_wp2_with (first | (at_builtin; refine wpList_append_eq rfl _ _ 34 rfl _ _ _ _ rfl rfl HRR.out ?_))
        exact ⟨⟨i + 1, by simp, hlt, HE⟩, by simp [intOf]; omega⟩
    · have hlt' : ¬ (i : Int) < (q : Int) := by omega
      have hiq : i = q := by omega
      subst hiq
      have HFI : Hid (Hds T k (ddL (Z.map fun j => T.v j k))) := heads_of (k := k) (c := fun _ => (k : Int)) rfl HST.out (fun j hj => HS.out.ok j hj k (by have := (HS.out.col HX.out hj).2.2.1; simpa using this))
      have HV2 : Hid (VV w1 u5 (ddL (Z.map fun j => T.v j k)) wr) := by have := HV.out; rwa [List.take_of_length_le (by omega)] at this
      go_wp2_with fail
      go_ret
      exact ⟨_, rfl, w1, _, HFI.out, HV2.out, HB1.out⟩
end Go.Proofs.YtbiikodnfaeceaaGreatDoor.so

/- Two lists of values that are the same; a column of any table. Conditions: as each theorem says. -/
namespace Go.Proofs.YtbiikodnfaeceaaGreatDoor.so
open Go.RowKit Go.Sort Go.Shelf
set_option maxRecDepth 100000 in
set_option maxHeartbeats 4000000 in
theorem rvals_same (p1 : Option Addr) (n c1 : Nat) (a : Nat → Vl) (p2 : Option Addr) (c2 : Nat) (b : Nat → Vl) (w : World) (h1 : VM w p1 n a) (h2 : VM w p2 n b) (hn : n ≤ 1000000) (hab : ∀ i, i < n → a i = b i) :
    Calls Tryz.prog 10 #[.slice p1 n c1, .slice p2 n c2] w fun e w' => e = .returned (.bool true) ∧ Gr w w' := by
  have H1 : Hid (VM w p1 n a) := h1
  have H2 : Hid (VM w p2 n b) := h2
  have HE : Hid (∀ i, i < n → a i = b i) := hab
  clear h1 h2 hab
  have mixed := mixed
  have tM := tM
  go_enter Tryz.func10, Tryz.ntmps10
  go_wp2_with fail
  go_loopw [5] (fun i wr => ∃ j : Nat, i = .int .i64 j ∧ j ≤ n ∧ Hid (Gr w wr)) (fun i _ => n - (intOf i).toNat)
  case atStart => exact ⟨0, rfl, Nat.zero_le _, Gr.refl _⟩
  case round =>
    obtain ⟨j, rfl, hj, HB⟩ := hrel
    by_cases hlt : j < n
    · have hlt' : (j : Int) < (n : Int) := by omega
      have hj0 : (0 : Int) ≤ (j : Int) := by omega
      rcases H1.out.next HB.out.below with h | ⟨g1, o1, rfl, hg1, h1⟩
      · omega
      rcases H2.out.next HB.out.below with h | ⟨g2, o2, rfl, hg2, h2⟩
      · omega
      obtain ⟨z1, z2, z3⟩ := h1 j (by omega)
      obtain ⟨x1, x2, x3⟩ := h2 j (by omega)
      have he := HE.out j hlt
      rw [← he] at x1 x2 x3
      generalize a j = va at *
      obtain ⟨k1, n1, s1⟩ := va
      dsimp only at z1 z2 z3 x1 x2 x3
      have z1q : ∀ m, (wr.drewN m).cell? ⟨g1, o1 + j * 3, none⟩ = some (.int .i64 k1) := fun m => z1
      have z2q : ∀ m, (wr.drewN m).cell? ⟨g1, o1 + j * 3 + 1, none⟩ = some (.int .i64 n1) := fun m => z2
      have z3q : ∀ m, (wr.drewN m).cell? ⟨g1, o1 + j * 3 + 2, none⟩ = some (.string s1) := fun m => z3
      have x1q : ∀ m, (wr.drewN m).cell? ⟨g2, o2 + j * 3, none⟩ = some (.int .i64 k1) := fun m => x1
      have x2q : ∀ m, (wr.drewN m).cell? ⟨g2, o2 + j * 3 + 1, none⟩ = some (.int .i64 n1) := fun m => x2
      have x3q : ∀ m, (wr.drewN m).cell? ⟨g2, o2 + j * 3 + 2, none⟩ = some (.string s1) := fun m => x3
      have hne : ∀ W, (binOp BinOp.neq 36 (V k1 n1 s1) (V k1 n1 s1)).run Tryz.prog W = .ok (.bool false) W := fun W => by rw [neqV]; simp
      clear h1 h2 hg1 hg2 he z1 z2 z3 x1 x2 x3
      go_wp2_with fail
      go_quiet (fail)
      have HB2 : Hid (Gr w (wr.drewN nq)) := HB.out.trans ⟨nq, #[], by rw [grow_empty]⟩
      clear z1q z2q z3q x1q x2q x3q HB
      generalize wr.drewN nq = w2 at *
      go_wp2_with fail
      exact ⟨⟨j + 1, by simp, hlt, HB2⟩, by simp [intOf]; omega⟩
    · have hlt' : ¬ (j : Int) < (n : Int) := by omega
      go_wp2_with fail
      go_ret
      exact ⟨rfl, HB.out⟩
set_option maxRecDepth 100000 in
set_option maxHeartbeats 1000000 in
theorem rcolumn_all (T : Tb) (p : Option Addr) (c : Nat) (x : Int) (w : World) (hT : TM w p T) (hq : T.q ≤ 9223372036854775807) (hL : ∀ i, i < T.q → T.L i ≤ 9223372036854775807) :
    Calls Tryz.prog 6 #[.slice p T.q c, .int .i64 x] w fun e w' => RB T x e ∧ w' = w := by
  obtain ⟨W, hW⟩ : ∃ W : Nat, wid T = W := ⟨_, rfl⟩
  have HP : Hid (∀ b : Bool, (b = true ↔ (0 ≤ x ∧ x < (W : Int))) → (b = true ↔ colOk T x)) := by
    intro b h; unfold colOk; rw [hW]; exact h
  obtain ⟨q, P, L, C, v⟩ := T
  simp only at hq hL ⊢
  by_cases h0 : q = 0
  · subst h0
    have e : (12 : Int) = W := by rw [← hW]; rfl
    have HE : Hid ((12 : Int) = W) := e
    clear hT hL hW e
    by_cases h1 : 0 ≤ x
    · have h1' : x ≥ 0 := h1
      go_enter Tryz.func6, Tryz.ntmps6
      go_wp2_with fail
      go_ret
      exact ⟨⟨decide (x < 12), by simp, HP.out _ (by rw [← HE.out]; simp; intro _; exact h1)⟩, rfl⟩
    · have h1' : ¬ x ≥ 0 := h1
      go_enter Tryz.func6, Tryz.ntmps6
      go_wp2_with fail
      go_ret
      exact ⟨⟨false, rfl, HP.out _ (by simp; omega)⟩, rfl⟩
  · have e : L 0 = W := by rw [← hW]; unfold wid; rw [if_neg h0]
    rcases hT with h | ⟨g, o, rfl, hg, h3⟩
    · exact absurd h h0
    obtain ⟨y0, -⟩ := h3 0 (by show 0 < q; omega)
    have hl := hL 0 (by omega)
    have hq1 : (0 : Int) < (q : Int) := by omega
    simp only [Nat.add_zero] at y0
    rw [e] at y0 hl
    clear h3 hg hL h0 hW e
    by_cases h1 : 0 ≤ x
    · have h1' : x ≥ 0 := h1
      go_enter Tryz.func6, Tryz.ntmps6
      go_wp2_with fail
      go_ret
      exact ⟨⟨decide (x < (W : Int)), by simp, HP.out _ (by simp; intro _; exact h1)⟩, rfl⟩
    · have h1' : ¬ x ≥ 0 := h1
      go_enter Tryz.func6, Tryz.ntmps6
      go_wp2_with fail
      go_ret
      exact ⟨⟨false, rfl, HP.out _ (by simp; omega)⟩, rfl⟩
end Go.Proofs.YtbiikodnfaeceaaGreatDoor.so
namespace Go.Proofs.YtbiikodnfaeceaaGreatDoor.so
open Go.RowKit Go.Sort Go.Shelf
def headR : Code → Option Nat
  | .region n _ _ => some n
  | .seq a _ => headR a
  | _ => none
/-- All from a region on, whatever it is bracketed with. -/
def findSeq (n : Nat) : Code → Option Code
  | .seq a b => if headR a = some n then some (.seq a b) else match findSeq n a with
    | some c => some c
    | none => findSeq n b
  | .cond _ a b => match findSeq n a with
    | some c => some c
    | none => findSeq n b
  | .loop c => findSeq n c
  | .block _ c => findSeq n c
  | .scope c => findSeq n c
  | _ => none
theorem uptoV_nthX (ys : List Vl) : uptoV (nthV ys) ys.length = ys := by
  unfold uptoV nthV
  apply List.ext_getElem?
  intro i
  by_cases hi : i < ys.length
  · rw [List.getElem?_map, List.getElem?_range hi, List.getElem?_eq_getElem hi]
    simp [List.getElem?_eq_getElem hi]
  · rw [List.getElem?_eq_none (by simp; omega), List.getElem?_eq_none (by omega)]
/-- The values of a column in the first so many rows that have two values. -/
def fl2 (T : Tb) (kb ko k : Nat) (a b : Vl) (r : Nat) : List Vl := ((List.range r).filter fun i => vlEq (T.v i kb) a && vlEq (T.v i ko) b).map fun i => T.v i k
theorem fl2_succ (T : Tb) (kb ko k : Nat) (a b : Vl) (r : Nat) : fl2 T kb ko k a b (r + 1) = fl2 T kb ko k a b r ++ (if (vlEq (T.v r kb) a && vlEq (T.v r ko) b) = true then [T.v r k] else []) := by
  unfold fl2
  rw [List.range_succ, List.filter_append, List.map_append]
  congr 1
  cases e : (vlEq (T.v r kb) a && vlEq (T.v r ko) b)
  · simp [e]
  · simp [e]
theorem fl2_len (T : Tb) (kb ko k : Nat) (a b : Vl) (r : Nat) : (fl2 T kb ko k a b r).length ≤ r := by
  unfold fl2
  rw [List.length_map]
  have := List.length_filter_le (fun i => vlEq (T.v i kb) a && vlEq (T.v i ko) b) (List.range r)
  rw [List.length_range] at this
  exact this
noncomputable def ctail12C : Code := ((Tryz.f4.body.bind (findSeq 12)).getD .skip)
set_option maxRecDepth 1000000 in
set_option maxHeartbeats 16000000 in
theorem ctail12 (T : Tb) (p : Option Addr) (cp q kb ko k : Nat) (hx hy : List Vl) (pa : Option Addr) (nx ca : Nat) (pb : Option Addr) (ny cb : Nat) (pz : Option Addr) (cz : Nat) (W : World) (ls : List Ln) (w0 w : World) (HEQ : Hid (T.q = q)) (hq60 : q ≤ 60) (HT : Hid (TM w p T)) (HKL : Hid (∀ i, i < T.q → kb < T.L i ∧ ko < T.L i ∧ k < T.L i)) (H64 : Hid (∀ i, i < T.q → ∀ j, j < T.L i → B64 (T.v i j).n)) (HNX : Hid (hx.length = nx)) (HNY : Hid (hy.length = ny)) (hnx : nx ≤ 60) (hny : ny ≤ 60) (HVX : Hid (VM w pa nx (nthV hx))) (HVY : Hid (VM w pb ny (nthV hy))) (HLS : Hid (LS W (.slice pz nx cz) ls w)) (HLM : Hid (ls.map Ln.vs = hx.map fun a => hy.map fun b => suV T kb ko k a b)) (HB0 : Hid (Bw w0 w))
    (l4 l5 l6 l7 l8 l9 l12 l13 l15 l16 l17 l18 l19 l20 l21 l22 l23 l24 l25 l26 l27 l28 l29 l30 l31 l32 l33 l34 l35 l36 l37 l38 l39 l40 l41 l42 l43 l44 l45 l46 l47 l48 l49 l50 l51 l52 l53 l54 l55 l56 l57 l58 l59 l60 l61 l62 l63 l64 l65 l66 l67 l68 l69 l70 l71 l72 l73 l74 l75 l76 l77 l78 l79 l80 l81 l82 l83 l84 l85 l86 l87 l88 l89 l90 l91 l92 l93 l94 l95 l96 l97 l98 l99 l100 l101 l102 l103 l104 l105 l106 l107 l108 l109 l110 l111 l112 l113 l114 l115 l116 l117 l118 l119 l120 l121 l122 l123 l124 l125 l126 l127 l128 l129 l130 l131 l132 l133 l134 l135 l136 l137 l138 l139 l140 l141 l142 l143 l144 l145 l146 : Value) :
    Code.wp Tryz.prog ctail12C (bodyPost Tryz.prog Tryz.f4 fun e w' => e = .returned (.bool true) ∧ Bw w0 w') ⟨#[.slice p q cp, .int .i64 (kb : Int), .int .i64 (ko : Int), .int .i64 (k : Int), l4, l5, l6, l7, l8, l9, .slice pa nx ca, .slice pb ny cb, l12, l13, .slice pz nx cz, l15, l16, l17, l18, l19, l20, l21, l22, l23, l24, l25, l26, l27, l28, l29, l30, l31, l32, l33, l34, l35, l36, l37, l38, l39, l40, l41, l42, l43, l44, l45, l46, l47, l48, l49, l50, l51, l52, l53, l54, l55, l56, l57, l58, l59, l60, l61, l62, l63, l64, l65, l66, l67, l68, l69, l70, l71, l72, l73, l74, l75, l76, l77, l78, l79, l80, l81, l82, l83, l84, l85, l86, l87, l88, l89, l90, l91, l92, l93, l94, l95, l96, l97, l98, l99, l100, l101, l102, l103, l104, l105, l106, l107, l108, l109, l110, l111, l112, l113, l114, l115, l116, l117, l118, l119, l120, l121, l122, l123, l124, l125, l126, l127, l128, l129, l130, l131, l132, l133, l134, l135, l136, l137, l138, l139, l140, l141, l142, l143, l144, l145, l146], []⟩ w := by
  dsimp only
  conv => arg 2; whnf
  have mixed := mixed
  have tM := tM
  have HLL : Hid (ls.length = nx) := by
    show _ = _
    have := congrArg List.length HLM.out
    rw [List.length_map, List.length_map, HNX.out] at this
    exact this
  go_wp2_with fail
  go_loopw [19] (fun s19 wr => ∃ i : Nat, s19 = .int .i64 i ∧ i ≤ nx ∧ Hid (Bw w wr)) (fun s19 _ => nx - (intOf s19).toNat)
  case atStart => exact ⟨0, rfl, Nat.zero_le _, Below.refl _ _⟩
  case round =>
    obtain ⟨i, rfl, hi, HB⟩ := hrel
    by_cases hlt : i < nx
    · have hlt' : (i : Int) < (nx : Int) := by omega
      have hi0 : (0 : Int) ≤ (i : Int) := by omega
      obtain ⟨a, ha⟩ : ∃ a, hx[i]? = some a := ⟨_, List.getElem?_eq_getElem (by rw [HNX.out]; exact hlt)⟩
      obtain ⟨ln, hln⟩ : ∃ ln, ls[i]? = some ln := ⟨_, List.getElem?_eq_getElem (by rw [HLL.out]; exact hlt)⟩
      have hvs : ln.vs = hy.map fun b => suV T kb ko k a b := by
        have h1 : (ls.map Ln.vs)[i]? = (hx.map fun a => hy.map fun b => suV T kb ko k a b)[i]? := by rw [HLM.out]
        rw [List.getElem?_map, List.getElem?_map, ha, hln] at h1
        simpa using h1
      have hvl : ln.vs.length = ny := by rw [hvs, List.length_map, HNY.out]
      obtain ⟨gz, cz', ez, hgz, hz3⟩ := HLS.out.lies (by rw [HLL.out]; omega)
      injection ez with ez el ez'
      clear el
      subst ez ez'
      have hz4 := hz3 i ln hln
      rw [hvl] at hz4
      have hvz := (HLS.out.each ln (List.mem_of_getElem? hln)).1
      rw [hvl] at hvz
      have HZC : Hid (∀ wx, Bw w wx → wx.cell? ⟨gz, i, none⟩ = some (.slice ln.p ny ln.cap) ∧ VM wx ln.p ny (nthV ln.vs)) := fun wx hb => ⟨(hb.cell (p := ⟨gz, _, none⟩) hgz).trans hz4, hvz.next hb⟩
      have HVS : Hid (ln.vs = hy.map fun b => suV T kb ko k a b) := hvs
      have HAX : Hid (hx[i]? = some a) := ha
      have HXC : Hid (∀ wx, Bw w wx → VM wx pa nx (nthV hx)) := fun wx hb => HVX.out.next hb
      clear hvs hvl hz3 hz4 hvz hgz hln ha
      obtain ⟨z0, -⟩ := HZC.out wr HB.out
      generalize ln.p = pl at *
      generalize ln.cap = cl at *
      generalize wr = wo at *
      go_wp2_with fail
      go_loopw [20] (fun s20 wr => ∃ j : Nat, s20 = .int .i64 j ∧ j ≤ ny ∧ Hid (Bw w wr)) (fun s20 _ => ny - (intOf s20).toNat)
      case atStart => exact ⟨0, rfl, Nat.zero_le _, HB⟩
      case round =>
        obtain ⟨j, rfl, hj, HBJ⟩ := hrel
        clear z0
        by_cases hlj : j < ny
        · have hlj' : (j : Int) < (ny : Int) := by omega
          have hj0 : (0 : Int) ≤ (j : Int) := by omega
          obtain ⟨b, hb⟩ : ∃ b, hy[j]? = some b := ⟨_, List.getElem?_eq_getElem (by rw [HNY.out]; exact hlj)⟩
          have HBY : Hid (hy[j]? = some b) := hb
          have HSV : Hid (nthV ln.vs j = suV T kb ko k a b) := by
            show _ = _
            rw [HVS.out]
            exact nthV_at (by rw [List.getElem?_map, hb]; rfl)
          clear hb
          generalize wr = wj at *
          go_wp2_with fail
          go_loopw [21, 22] (fun s21 s22 wr => ∃ r : Nat, s22 = .int .i64 r ∧ r ≤ q ∧ Hid (VV wj s21 (fl2 T kb ko k a b r) wr)) (fun _ s22 _ => q - (intOf s22).toNat)
          case atStart => exact ⟨0, rfl, Nat.zero_le _, VV.nil _⟩
          case round =>
            obtain ⟨r, rfl, hr, HV⟩ := hrel
            have HBR : Hid (Bw w wr) := HBJ.out.tr HV.out.below
            by_cases hlr : r < q
            · have hlr' : (r : Int) < (q : Int) := by omega
              have hr0 : (0 : Int) ≤ (r : Int) := by omega
              have hrT : r < T.q := by rw [HEQ.out]; exact hlr
              obtain ⟨l1, l2, l3⟩ := HKL.out r hrT
              rcases HT.out.next HBR.out with h | ⟨gt, ot, rfl, hgt, ht3⟩
              · omega
              obtain ⟨t0, hvm⟩ := ht3 r hrT
              rcases hvm with h | ⟨g1, o1, e1, hg1, hv3⟩
              · omega
              rw [e1] at t0
              obtain ⟨u0, u1, u2⟩ := hv3 kb l1
              obtain ⟨v0, v1, v2⟩ := hv3 ko l2
              obtain ⟨x0, x1, x2⟩ := hv3 k l3
              rcases HXC.out wr HBR.out with h | ⟨g2, o2, rfl, hg2, ha3⟩
              · omega
              obtain ⟨a0, a1, a2⟩ := ha3 i hlt
              rw [nthV_at HAX.out] at a0 a1 a2
              rcases HVY.out.next HBR.out with h | ⟨g3, o3, rfl, hg3, hb3⟩
              · omega
              obtain ⟨b0, b1, b2⟩ := hb3 j hlj
              rw [nthV_at HBY.out] at b0 b1 b2
              have hfs := fl2_succ T kb ko k a b r
              have hfl := fl2_len T kb ko k a b r
              have hb1' : (kb : Int) < (T.L r : Int) := by omega
              have hb2' : (ko : Int) < (T.L r : Int) := by omega
              have hb3' : (k : Int) < (T.L r : Int) := by omega
              have hp1 : (0 : Int) ≤ (kb : Int) := by omega
              have hp2 : (0 : Int) ≤ (ko : Int) := by omega
              have hp3 : (0 : Int) ≤ (k : Int) := by omega
              obtain ⟨B1, hB1⟩ : ∃ B, vlEq (T.v r kb) a = B := ⟨_, rfl⟩
              obtain ⟨B2, hB2⟩ : ∃ B, vlEq (T.v r ko) b = B := ⟨_, rfl⟩
              rw [hB1, hB2] at hfs
              have HFS : Hid (fl2 T kb ko k a b (r + 1) = fl2 T kb ko k a b r ++ (if (B1 && B2) = true then [T.v r k] else [])) := hfs
              have q1 : ∀ W, (binOp BinOp.eql 36 (V (T.v r kb).k (T.v r kb).n (T.v r kb).s) (V a.k a.n a.s)).run Tryz.prog W = .ok (.bool B1) W := fun W => by rw [eqInW, ← hB1]; rfl
              have q2 : ∀ W, (binOp BinOp.eql 36 (V (T.v r ko).k (T.v r ko).n (T.v r ko).s) (V b.k b.n b.s)).run Tryz.prog W = .ok (.bool B2) W := fun W => by rw [eqInW, ← hB2]; rfl
              generalize fl2 T kb ko k a b r = FL at *
              generalize T.v r kb = yb at *
              generalize T.v r ko = yo at *
              obtain ⟨y, hy'⟩ : ∃ y, T.v r k = y := ⟨_, rfl⟩
              rw [hy'] at HFS x0 x1 x2
              generalize T.L r = lr at *
              generalize T.C r = cr at *
              obtain ⟨yk, yn, ys⟩ := y
              dsimp only at x0 x1 x2
              have t0q : ∀ m, (wr.drewN m).cell? ⟨gt, ot + r, none⟩ = some (.slice (some ⟨g1, o1, none⟩) lr cr) := fun m => t0
              have u0q : ∀ m, (wr.drewN m).cell? ⟨g1, o1 + kb * 3, none⟩ = some (.int .i64 yb.k) := fun m => u0
              have u1q : ∀ m, (wr.drewN m).cell? ⟨g1, o1 + kb * 3 + 1, none⟩ = some (.int .i64 yb.n) := fun m => u1
              have u2q : ∀ m, (wr.drewN m).cell? ⟨g1, o1 + kb * 3 + 2, none⟩ = some (.string yb.s) := fun m => u2
              have v0q : ∀ m, (wr.drewN m).cell? ⟨g1, o1 + ko * 3, none⟩ = some (.int .i64 yo.k) := fun m => v0
              have v1q : ∀ m, (wr.drewN m).cell? ⟨g1, o1 + ko * 3 + 1, none⟩ = some (.int .i64 yo.n) := fun m => v1
              have v2q : ∀ m, (wr.drewN m).cell? ⟨g1, o1 + ko * 3 + 2, none⟩ = some (.string yo.s) := fun m => v2
              have a0q : ∀ m, (wr.drewN m).cell? ⟨g2, o2 + i * 3, none⟩ = some (.int .i64 a.k) := fun m => a0
              have a1q : ∀ m, (wr.drewN m).cell? ⟨g2, o2 + i * 3 + 1, none⟩ = some (.int .i64 a.n) := fun m => a1
              have a2q : ∀ m, (wr.drewN m).cell? ⟨g2, o2 + i * 3 + 2, none⟩ = some (.string a.s) := fun m => a2
              have b0q : ∀ m, (wr.drewN m).cell? ⟨g3, o3 + j * 3, none⟩ = some (.int .i64 b.k) := fun m => b0
              have b1q : ∀ m, (wr.drewN m).cell? ⟨g3, o3 + j * 3 + 1, none⟩ = some (.int .i64 b.n) := fun m => b1
              have b2q : ∀ m, (wr.drewN m).cell? ⟨g3, o3 + j * 3 + 2, none⟩ = some (.string b.s) := fun m => b2
              have HMEM : Hid (∀ wx, Bw wr wx → wx.cell? ⟨gt, ot + r, none⟩ = some (.slice (some ⟨g1, o1, none⟩) lr cr) ∧ wx.cell? ⟨g1, o1 + k * 3, none⟩ = some (.int .i64 yk) ∧ wx.cell? ⟨g1, o1 + k * 3 + 1, none⟩ = some (.int .i64 yn) ∧ wx.cell? ⟨g1, o1 + k * 3 + 2, none⟩ = some (.string ys)) := fun wx hb => ⟨(hb.cell (p := ⟨gt, _, none⟩) hgt).trans t0, (hb.cell (p := ⟨g1, _, none⟩) hg1).trans x0, (hb.cell (p := ⟨g1, _, none⟩) hg1).trans x1, (hb.cell (p := ⟨g1, _, none⟩) hg1).trans x2⟩
              clear ht3 hv3 ha3 hb3 hgt hg1 hg2 hg3 e1 hy' hB1 hB2 hfs t0 u0 u1 u2 v0 v1 v2 a0 a1 a2 b0 b1 b2 x0 x1 x2 l1 l2 l3
              obtain ⟨ybk, ybn, ybs⟩ := yb
              obtain ⟨yok, yon, yos⟩ := yo
              dsimp only at u0q u1q u2q v0q v1q v2q q1 q2
              go_upto_region 24 with fail
              go_cut [125] (fun s wx => s = .bool (B1 && B2) ∧ Hid (Bw wr wx))
              case first =>
                cases B1 with
                | false =>
                  go_quiet (fail)
                  have HW : Hid (Bw wr (wr.drewN nq)) := Bw.drewN _ _
                  clear t0q u0q u1q u2q v0q v1q v2q a0q a1q a2q b0q b1q b2q q1 q2
                  generalize wr.drewN nq = w2 at *
                  go_wp2_with fail
                  go_meet
                  case rel => exact ⟨rfl, HW⟩
                | true =>
                  go_quiet (fail)
                  have HW : Hid (Bw wr (wr.drewN nq)) := Bw.drewN _ _
                  clear t0q u0q u1q u2q v0q v1q v2q a0q a1q a2q b0q b1q b2q q1 q2
                  generalize wr.drewN nq = w2 at *
                  go_wp2_with fail
                  go_meet
                  case rel => exact ⟨rfl, HW⟩
              case rest =>
              obtain ⟨rfl, HB2⟩ := hcut
              apply_assumption
              have HV2 : Hid (VV wj u21 FL wc) := HV.out.next HB2.out
              obtain ⟨t0, x0, x1, x2⟩ := HMEM.out wc HB2.out
              clear t0q u0q u1q u2q v0q v1q v2q a0q a1q a2q b0q b1q b2q q1 q2 HMEM HB2 HV HBR
              generalize (B1 && B2) = BB at *
              cases BB with
              | false =>
                have HE : Hid (VV wj u21 (fl2 T kb ko k a b (r + 1)) wc) := by show VV _ _ _ _; rw [HFS.out]; simpa using HV2.out
                clear t0 x0 x1 x2
                go_wp2_with fail
                exact ⟨⟨r + 1, by simp, hlr, HE⟩, by simp [intOf]; omega⟩
              | true =>
                obtain ⟨pv, cv, e21, -⟩ := HV2.out.vm
                obtain ⟨fl, hfl'⟩ : ∃ fl, FL.length = fl := ⟨_, rfl⟩
                obtain ⟨g6, cc6, w6, hrr, hV6⟩ := HV2.out.one (by omega) ⟨yk, yn, ys⟩
                rw [hfl'] at e21 hrr hV6 hfl
                subst e21
                have HE : Hid (VV wj (.slice (some ⟨g6, 0, none⟩) (fl + 1) cc6) (fl2 T kb ko k a b (r + 1)) w6) := by show VV _ _ _ _; rw [HFS.out]; simpa using hV6
                dsimp only at hrr
                have HRR : Hid ((Builtin.append_ #[34, 34] 34 #[.slice pv fl cv, .slice (some ⟨wc.heap.size, 0, none⟩) 1 1]).run Tryz.prog (wc.alloc (.cells #[.int .i64 yk, .int .i64 yn, .string ys] 36)) = .ok (.slice (some ⟨g6, 0, none⟩) (fl + 1) cc6) w6) := hrr
                clear hrr hV6 HV2 hfl'
                go_wp2_with (first | (at_builtin; refine wpList_append_eq rfl _ _ 34 rfl _ _ _ _ rfl rfl HRR.out ?_))
                exact ⟨⟨r + 1, by simp, hlr, HE⟩, by simp [intOf]; omega⟩
            · have hlr' : ¬ (r : Int) < (q : Int) := by omega
              have hrq : r = q := by omega
              subst hrq
              have hfl := fl2_len T kb ko k a b r
              have HSE : Hid (sumV (fl2 T kb ko k a b r) [] = suV T kb ko k a b) := by show _ = _; unfold suV fl2; rw [HEQ.out]
              have HB64 : Hid (∀ x ∈ fl2 T kb ko k a b r, B64 x.n) := fun x hx => by
                unfold fl2 at hx
                obtain ⟨u, hu, rfl⟩ := List.mem_map.1 hx
                have huq : u < T.q := by rw [HEQ.out]; exact List.mem_range.1 (List.mem_filter.1 hu).1
                exact H64.out u huq k (HKL.out u huq).2.2
              generalize fl2 T kb ko k a b r = FL at *
              obtain ⟨pv, cv, e21, hvm, -⟩ := HV.out.vm
              have hsu := rsum3_any pv FL.length cv (by omega) (nthV FL) wr hvm (fun u hu => HB64.out _ (by
                unfold nthV
                rw [List.getD_eq_getElem?_getD, List.getElem?_eq_getElem hu]
                exact List.getElem_mem hu))
              rw [uptoV_nthX, HSE.out] at hsu
              obtain ⟨R, hR⟩ : ∃ R, suV T kb ko k a b = R := ⟨_, rfl⟩
              have HRS : Hid (nthV ln.vs j = R) := HSV.out.trans hR
              rw [hR] at hsu
              subst e21
              obtain ⟨fl, hfl'⟩ : ∃ fl, FL.length = fl := ⟨_, rfl⟩
              rw [hfl'] at hsu ⊢
              obtain ⟨rk, rn, rs⟩ := R
              dsimp only at hsu
              have HSU : Hid (Calls Tryz.prog 13 #[.slice pv fl cv] wr fun e w' => e = .returned (V rk rn rs) ∧ Bw wr w') := hsu
              clear hsu hvm hR hfl hfl' HV
              go_upto_region 27 with fail
              refine HSU.out.mono ?_
              clear HSU
              rintro e w5 ⟨rfl, hb5⟩
              have HBS : Hid ((w5.alloc (.cells #[.int .i64 rk, .int .i64 rn, .string rs] 36)).heap[w5.heap.size]? = some (.cells #[.int .i64 rk, .int .i64 rn, .string rs] 36 (0, 0))) := heap_alloc_new _ _
              have HB6 : Hid (Bw w (w5.alloc (.cells #[.int .i64 rk, .int .i64 rn, .string rs] 36))) := (HBR.out.tr hb5).tr (Bw.al _ _)
              clear hb5 HBR
              go_upto_region 27 with fail
              obtain ⟨bs, hbs⟩ : ∃ bs, w5.heap.size = bs := ⟨_, rfl⟩
              rw [hbs] at HBS ⊢
              clear hbs
              generalize w5.alloc (.cells #[.int .i64 rk, .int .i64 rn, .string rs] 36) = w6 at *
              obtain ⟨z0, hvz⟩ := HZC.out w6 HB6.out
              rcases hvz with h | ⟨g7, o7, rfl, hg7, h7⟩
              · omega
              obtain ⟨z1, z2, z3⟩ := h7 j hlj
              rw [HRS.out] at z1 z2 z3
              dsimp only at z1 z2 z3
              obtain ⟨⟨s0, s1, s2⟩, -⟩ := cells3 HBS.out
              have z0q : ∀ m, (w6.drewN m).cell? ⟨gz, i, none⟩ = some (.slice (some ⟨g7, o7, none⟩) ny cl) := fun m => z0
              have z1q : ∀ m, (w6.drewN m).cell? ⟨g7, o7 + j * 3, none⟩ = some (.int .i64 rk) := fun m => z1
              have z2q : ∀ m, (w6.drewN m).cell? ⟨g7, o7 + j * 3 + 1, none⟩ = some (.int .i64 rn) := fun m => z2
              have z3q : ∀ m, (w6.drewN m).cell? ⟨g7, o7 + j * 3 + 2, none⟩ = some (.string rs) := fun m => z3
              have s0q : ∀ m, (w6.drewN m).cell? ⟨bs, 0, none⟩ = some (.int .i64 rk) := fun m => s0
              have s1q : ∀ m, (w6.drewN m).cell? ⟨bs, 1, none⟩ = some (.int .i64 rn) := fun m => s1
              have s2q : ∀ m, (w6.drewN m).cell? ⟨bs, 2, none⟩ = some (.string rs) := fun m => s2
              have hne : ∀ W, (binOp BinOp.neq 36 (V rk rn rs) (V rk rn rs)).run Tryz.prog W = .ok (.bool false) W := fun W => by rw [neqV]; simp
              clear z0 z1 z2 z3 s0 s1 s2 h7 hg7
              go_quiet (fail)
              have HB7 : Hid (Bw w (w6.drewN nq)) := HB6.out.tr (Bw.drewN _ _)
              clear z0q z1q z2q z3q s0q s1q s2q hne HB6 HBS
              generalize w6.drewN nq = w7 at *
              go_wp2_with fail
              exact ⟨⟨j + 1, by simp, hlj, HB7⟩, by simp [intOf]; omega⟩
        · have hlj' : ¬ (j : Int) < (ny : Int) := by omega
          go_wp2_with fail
          exact ⟨⟨i + 1, by simp, hlt, HBJ⟩, by simp [intOf]; omega⟩
    · have hlt' : ¬ (i : Int) < (nx : Int) := by omega
      go_wp2_with fail
      go_ret
      exact ⟨rfl, HB0.out.tr HB.out⟩
end Go.Proofs.YtbiikodnfaeceaaGreatDoor.so
