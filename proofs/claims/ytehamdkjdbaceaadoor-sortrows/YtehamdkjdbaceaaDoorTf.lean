
/- Go's own stable sort: two rows are merged, whatever they are. Conditions: as each theorem says. -/
import Derived.Test.YtehamdkjdbaceaaDoorTe
namespace Go.Proofs.YtehamdkjdbaceaaDoor.so
open Go.RowKit Go.Sort
variable {α : Type} [Inhabited α] {P : Program}
set_option maxRecDepth 1000000 in
set_option maxHeartbeats 4000000 in
theorem symC (K : KT P) (enc : α → Value) (cf : α → α → Int) (T : α → α → Prop) (tr : ∀ a b c, T a b → T b c → T a c) (g : Nat) (cb : Array Value) (blk off cap : Nat) (d0 : Array α) (w0 : World)
    (eg : ∀ args w, (callFunc g args).run P w = .ok (.enter g args) w) (hcmp : CmpLays1 P g cb enc cf blk off d0.size w0) (R : Row1 enc w0 blk off d0) (hsz : d0.size ≤ 4398046511104)
    (E X Y S : List α) (hX : 1 < X.length) (hY : 1 < Y.length) (M : Mg (ltOf cf) T X Y) (w : World) (hs : d0.size = (E ++ X ++ Y ++ S).length) (hW : SW enc w0 blk off (E ++ X ++ Y ++ S).toArray w)
    (IH : ∀ (E' X' Y' S' : List α), 0 < X'.length → 0 < Y'.length → X'.length + Y'.length < X.length + Y.length → Mg (ltOf cf) T X' Y' → SymOK P enc T (.func (.func g) #[] cb) blk off cap d0.size w0 E' X' Y' S') :
    Calls P 45 #[.slice (some ⟨blk, off, none⟩) d0.size cap, .int .i64 (E.length : Nat), .int .i64 ((E.length + X.length : Nat) : Int), .int .i64 ((E.length + X.length + Y.length : Nat) : Int), .func (.func g) #[] cb] w fun e w' => e = .returned (.tuple #[]) ∧ ∃ Z, MgO T X Y Z ∧ SW enc w0 blk off (E ++ Z ++ S).toArray w' := by
  obtain ⟨z, hz⟩ : ∃ z, d0.size = z := ⟨_, rfl⟩
  obtain ⟨a, ha⟩ : ∃ a, E.length = a := ⟨_, rfl⟩
  obtain ⟨m, hm⟩ : ∃ m, a + X.length = m := ⟨_, rfl⟩
  obtain ⟨b, hb⟩ : ∃ b, m + Y.length = b := ⟨_, rfl⟩
  obtain ⟨mid, hmid⟩ : ∃ mid, (a + b) / 2 = mid := ⟨_, rfl⟩
  obtain ⟨n, hn⟩ : ∃ n, mid + m = n := ⟨_, rfl⟩
  rw [ha, hm, hb, hz]
  have hbz : b ≤ z := by rw [← hz, hs, ← hb, ← hm, ← ha]; simp; omega
  have hz1 : z ≤ 4398046511104 := by omega
  have ham : a + 1 < m := by omega
  have hmb : m + 1 < b := by omega
  have hmid1 : a < mid := by omega
  have hmid2 : mid < b := by omega
  have HN : Hid (2 * mid ≤ a + b ∧ a + b ≤ 2 * mid + 1 ∧ mid + m = n) := ⟨by omega, by omega, hn⟩
  have HB : Hid (a + X.length = m ∧ m + Y.length = b ∧ E.length = a ∧ d0.size = z ∧ (E ++ X ++ Y ++ S).length = z) := ⟨hm, hb, ha, hz, by rw [← hs, hz]⟩
  have HM : Hid (Mg (ltOf cf) T X Y) := M
  have HC : Aside (CmpLays1 P g cb enc cf blk off d0.size w0) := hcmp
  have HIH : Aside (∀ (E' X' Y' S' : List α), 0 < X'.length → 0 < Y'.length → X'.length + Y'.length < X.length + Y.length → Mg (ltOf cf) T X' Y' → SymOK P enc T (.func (.func g) #[] cb) blk off cap z w0 E' X' Y' S') := by show ∀ _, _; rw [← hz]; exact IH
  have S0 : Aside (SW enc w0 blk off (E ++ X ++ Y ++ S).toArray w) := hW
  have hsD : (E ++ X ++ Y ++ S).toArray.size = d0.size := by rw [List.size_toArray, hs]
  have HXa : Hid (∀ i x, X[i]? = some x → (E ++ X ++ Y ++ S).toArray[a + i]! = x) := fun i x h => by
    have := at_piece (E := E) (S := Y ++ S) h
    rw [ha, ← List.append_assoc] at this
    exact this
  have HYa : Hid (∀ i y, Y[i]? = some y → (E ++ X ++ Y ++ S).toArray[m + i]! = y) := fun i y h => by
    have := at_piece (E := E ++ X) (S := S) h
    rw [List.length_append, ha, hm] at this
    exact this
  have HRot : Hid (∀ (E' X' Y' S' : List α) (ia im ib : Int) (wx : World), 0 < X'.length → 0 < Y'.length → ia = (E'.length : Nat) → im = ((E'.length + X'.length : Nat) : Int) → ib = ((E'.length + X'.length + Y'.length : Nat) : Int) → (E' ++ X' ++ Y' ++ S').length = z → SW enc w0 blk off (E' ++ X' ++ Y' ++ S').toArray wx → Calls P 52 #[.slice (some ⟨blk, off, none⟩) z cap, .int .i64 ia, .int .i64 im, .int .i64 ib, .func (.func g) #[] cb] wx fun e w' => e = .returned (.tuple #[]) ∧ SW enc w0 blk off (E' ++ Y' ++ X' ++ S').toArray w') := by
    intro E' X' Y' S' ia im ib wx h1 h2 e1 e2 e3 hl hW'
    subst e1 e2 e3
    have := rotate_any K enc E' X' Y' S' h1 h2 (.func (.func g) #[] cb) blk off cap d0 w0 wx R (by rw [hz, hl]) (by omega) hW'
    rwa [hz] at this
  have mixed := K.mixed; have t0 := K.t0; have a0 := K.a0; have z0 := K.z0; have v0 := K.v0; have t3 := K.t3; have a3 := K.a3; have z3 := K.z3; have v3 := K.v3; have t4 := K.t4; have a4 := K.a4; have z4 := K.z4; have v4 := K.v4; have t22 := K.t22; have a22 := K.a22; have z22 := K.z22; have v22 := K.v22; have t79 := K.t79; have a79 := K.a79; have z79 := K.z79; have v79 := K.v79; have t99 := K.t99; have a99 := K.a99; have z99 := K.z99; have v99 := K.v99
  have u22 := run_underlying K.t22
  have hcl0 := R.hO.cells
  simp only [Value.cells] at hcl0
  have hst := R.hO.store P
  have FG := K.fSy
  have e112 : ∀ args w, (callFunc 52 args).run P w = .ok (.enter 52 args) w := enters_of K.fRo (by kernel_rfl) rfl
  have e95 : ∀ args w, (callFunc 45 args).run P w = .ok (.enter 45 args) w := enters_of K.fSy (by kernel_rfl) rfl
  have hw1 : IntKind.i64.wrap ((m : Int) - (a : Int)) = (m : Int) - (a : Int) := by rw [IntKind.wrap_i64]; omega
  have he1 : ((m : Int) - (a : Int) == 1) = false := by simp; omega
  have he3 : ¬ (m : Int) - (a : Int) = 1 := by omega
  have hw2 : IntKind.i64.wrap ((b : Int) - (m : Int)) = (b : Int) - (m : Int) := by rw [IntKind.wrap_i64]; omega
  have he4 : ¬ (b : Int) - (m : Int) = 1 := by omega
  have hmi : ((a : Int) + (b : Int)) / 2 = (mid : Int) := by omega
  have hni : (mid : Int) + (m : Int) = (n : Int) := by omega
  have hn2 : n ≤ 8796093022208 := by omega
  have hnb : b ≤ n + (b - m) := by omega
  clear hW hs hsz hz ha hm hb hmid hn hcmp M hX hY IH
  generalize hD : (E ++ X ++ Y ++ S).toArray = D at *
  have HD : Hid ((E ++ X ++ Y ++ S).toArray = D) := hD
  clear hD
  go_enter FG, Tryd.ntmps45
  go_upto_if 140 with fail
  go_cut [20, 21] (fun s20 s21 wx => ∃ s0 r0 : Nat, s20 = .int .i64 s0 ∧ s21 = .int .i64 r0 ∧ Rng a m b mid n s0 r0 ∧ wx = w)
  case first =>
    obtain ⟨q1, q2, q3⟩ := HN.out
    by_cases hmm : mid < m
    · have hmm' : (mid : Int) < (m : Int) := by omega
      have hwn : IntKind.i64.wrap ((n : Int) - (b : Int)) = (n : Int) - (b : Int) := by rw [IntKind.wrap_i64]; omega
      have HR : Hid (Rng a m b mid n (n - b) mid ∧ b ≤ n) := ⟨by unfold Rng; omega, by omega⟩
      clear q1 q2 q3
      go_wp2_with fail
      go_meet
      case rel => exact ⟨n - b, mid, by have := HR.out.2; congr 1; omega, rfl, HR.out.1, rfl⟩
    · have hmm' : ¬ (mid : Int) < (m : Int) := by omega
      have HR : Hid (Rng a m b mid n a m) := by unfold Hid Rng; omega
      clear q1 q2 q3
      go_wp2_with fail
      go_meet
      case rel => exact ⟨a, m, rfl, rfl, HR.out, rfl⟩
  case rest =>
  obtain ⟨s0, r0, rfl, rfl, hRng, rfl⟩ := hcut
  have HRng : Hid (Rng a m b mid n s0 r0) := hRng
  have hsr : s0 ≤ r0 := hRng.2.1
  have hrm : r0 ≤ m := hRng.2.2.1
  clear hRng
  obtain ⟨pn, hpn⟩ : ∃ pn, n - 1 = pn := ⟨_, rfl⟩
  have hpi : (n : Int) - 1 = (pn : Int) := by omega
  have HPN : Hid (pn + 1 = n) := by show _ = _; omega
  clear hpn
  go_upto_block 8 with fail
  go_cut [20] (fun s20 wx => ∃ st : Nat, s20 = .int .i64 st ∧ s0 ≤ st ∧ st ≤ r0 ∧ Hid ((st = s0 ∨ ∃ x y, X[st - a - 1]? = some x ∧ Y[n - st - m]? = some y ∧ ltOf cf y x = false) ∧ (st = r0 ∨ ∃ x y, X[st - a]? = some x ∧ Y[n - st - 1 - m]? = some y ∧ ltOf cf y x = true)) ∧ Aside (SW enc w0 blk off D wx))
  case first =>
    go_wp2_with fail
    go_loopw [20, 21] (fun s20 s21 wr => ∃ i j : Nat, s20 = .int .i64 i ∧ s21 = .int .i64 j ∧ s0 ≤ i ∧ i ≤ j ∧ j ≤ r0 ∧ Hid ((i = s0 ∨ ∃ x y, X[i - a - 1]? = some x ∧ Y[n - i - m]? = some y ∧ ltOf cf y x = false) ∧ (j = r0 ∨ ∃ x y, X[j - a]? = some x ∧ Y[n - j - 1 - m]? = some y ∧ ltOf cf y x = true)) ∧ Aside (SW enc w0 blk off D wr)) (fun s20 s21 _ => (intOf s21).toNat - (intOf s20).toNat)
    case atStart => exact ⟨s0, r0, rfl, rfl, Nat.le_refl _, hsr, Nat.le_refl _, ⟨.inl rfl, .inl rfl⟩, S0⟩
    case round =>
      obtain ⟨i, j, rfl, rfl, hai, hij, hjb, HK, S1⟩ := hrel
      by_cases hlt : i < j
      · have hlt' : (i : Int) < (j : Int) := by omega
        have hi0 : (0 : Int) ≤ (i : Int) := by omega
        have hj3 : (j : Int) ≤ 4398046511104 := by omega
        obtain ⟨h, hh⟩ : ∃ h : Nat, (i + j) / 2 = h := ⟨_, rfl⟩
        have hh' : ((i : Int) + (j : Int)) / 2 = (h : Int) := by omega
        have hhij : i ≤ h ∧ h < j := by omega
        obtain ⟨u1, u2, u3, u4, u5, u6, u7⟩ := HRng.out
        obtain ⟨q1, q2, q3⟩ := HN.out
        obtain ⟨c1, c2, c3, c4, c5⟩ := HB.out
        have hpn := HPN.out
        obtain ⟨q, hq⟩ : ∃ q, pn - h = q := ⟨_, rfl⟩
        have hq' : (pn : Int) - (h : Int) = (q : Int) := by omega
        have hqm : m ≤ q ∧ q < b := by omega
        have hha : a ≤ h ∧ h < m := by omega
        have hhz : (h : Int) < (z : Int) := by omega
        have hh0 : (0 : Int) ≤ (h : Int) := by omega
        have hqz : (q : Int) < (z : Int) := by omega
        have hq0 : (0 : Int) ≤ (q : Int) := by omega
        have hwq : IntKind.i64.wrap (q : Int) = (q : Int) := by rw [IntKind.wrap_i64]; omega
        obtain ⟨x, hx⟩ : ∃ x, X[h - a]? = some x := ⟨_, List.getElem?_eq_getElem (by omega)⟩
        obtain ⟨y, hy⟩ : ∃ y, Y[q - m]? = some y := ⟨_, List.getElem?_eq_getElem (by omega)⟩
        have hxD : D[h]! = x := by have := HXa.out _ _ hx; rwa [show a + (h - a) = h by omega] at this
        have hyD : D[q]! = y := by have := HYa.out _ _ hy; rwa [show m + (q - m) = q by omega] at this
        have HXY : Hid (X[h - a]? = some x ∧ Y[q - m]? = some y ∧ q = n - h - 1) := ⟨hx, hy, by omega⟩
        have l1 := S1.out.cl R (by omega) q (by omega)
        have l2 := S1.out.cl R (by omega) h (by omega)
        have hcg := S1.out.cmp HC.out (by omega) y x
        rw [hyD] at l1
        rw [hxD] at l2
        clear hx hy hxD hyD hh hq u1 u2 u3 u4 u5 u6 u7 q1 q2 q3 c1 c2 c3 c4 c5 hpn hqm hha
        by_cases hlv : cf y x < 0
        · have hlv2 : ¬ (0 ≤ cf y x) := by omega
          go_wp2_with fail
          try simp only [hh']
          go_quiet_grown (first | (go_at_fn g; refine Calls.grown_of (hcg _ _)))
          go_wp2_with fail
          exact ⟨⟨i, h, rfl, rfl, hai, by omega, by omega, ⟨HK.out.1, .inr ⟨x, y, HXY.out.1, by rw [← HXY.out.2.2]; exact HXY.out.2.1, decide_eq_true hlv⟩⟩, S1.out.grown nq osq⟩, by simp [intOf]; omega⟩
        · have hlc : (!decide (cf y x < 0)) = true := by simp; omega
          go_wp2_with fail
          try simp only [hh']
          go_quiet_grown (first | (go_at_fn g; refine Calls.grown_of (hcg _ _)))
          go_wp2_with fail
          exact ⟨⟨h + 1, j, rfl, rfl, by omega, by omega, hjb, ⟨.inr ⟨x, y, by rw [show h + 1 - a - 1 = h - a by omega]; exact HXY.out.1, by rw [show n - (h + 1) - m = q - m by have := HXY.out.2.2; omega]; exact HXY.out.2.1, decide_eq_false (by omega)⟩, HK.out.2⟩, S1.out.grown nq osq⟩, by simp [intOf]; omega⟩
      · have hlt' : ¬ (i : Int) < (j : Int) := by omega
        have e : i = j := by omega
        subst e
        go_wp2_with fail
        go_meet
        case rel => exact ⟨i, rfl, hai, hjb, HK, S1⟩
  case rest =>
  obtain ⟨st, rfl, hs1, hs2, HK, S1⟩ := hcut
  obtain ⟨en, hen⟩ : ∃ en, n - st = en := ⟨_, rfl⟩
  obtain ⟨X1, hX1⟩ : ∃ l, X.take (st - a) = l := ⟨_, rfl⟩
  obtain ⟨X2, hX2⟩ : ∃ l, X.drop (st - a) = l := ⟨_, rfl⟩
  obtain ⟨Y1, hY1⟩ : ∃ l, Y.take (en - m) = l := ⟨_, rfl⟩
  obtain ⟨Y2, hY2⟩ : ∃ l, Y.drop (en - m) = l := ⟨_, rfl⟩
  have HG : Hid (a ≤ st ∧ st ≤ m ∧ st ≤ mid ∧ m ≤ en ∧ en ≤ b ∧ n = en + st ∧ E.length = a ∧ X1.length = st - a ∧ X2.length = m - st ∧ Y1.length = en - m ∧ Y2.length = b - en ∧ mid + m = n ∧ (E ++ X1 ++ X2 ++ Y1 ++ Y2 ++ S).length = z) := by
    obtain ⟨u1, u2, u3, u4, u5, u6, u7⟩ := HRng.out
    obtain ⟨q1, q2, q3⟩ := HN.out
    obtain ⟨c1, c2, c3, c4, c5⟩ := HB.out
    refine ⟨by omega, by omega, by omega, by omega, by omega, by omega, c3, ?_, ?_, ?_, ?_, q3, ?_⟩
    · rw [← hX1, List.length_take]; omega
    · rw [← hX2, List.length_drop]; omega
    · rw [← hY1, List.length_take]; omega
    · rw [← hY2, List.length_drop]; omega
    · rw [← hX1, ← hX2, ← hY1, ← hY2, List.append_assoc E, List.take_append_drop, List.append_assoc (E ++ X), List.take_append_drop]; exact c5
  have HM1 : Hid (Mg (ltOf cf) T X1 Y1 ∧ Mg (ltOf cf) T X2 Y2) := by rw [← hX1, ← hX2, ← hY1, ← hY2]; exact ⟨HM.out.take _ _, HM.out.drop _ _⟩
  have HSP : Hid (∀ Z1 Z2, MgO T X1 Y1 Z1 → MgO T X2 Y2 Z2 → MgO T X Y (Z1 ++ Z2)) := by
    intro Z1 Z2 g1 g2
    rw [← hX1, ← hY1] at g1
    rw [← hX2, ← hY2] at g2
    obtain ⟨u1, u2, u3, u4, u5, u6, u7⟩ := HRng.out
    obtain ⟨q1, q2, q3⟩ := HN.out
    obtain ⟨c1, c2, c3, c4, c5⟩ := HB.out
    refine mg_split tr HM.out ?_ ?_ g1 g2
    · rcases HK.out.1 with h | ⟨x, y, hx, hy, hyx⟩
      · rcases u6 with h6 | h6
        · exact .inl (by omega)
        · exact .inr (.inl (by omega))
      · exact .inr (.inr ⟨x, y, hx, by rw [show en - m = n - st - m by omega]; exact hy, hyx⟩)
    · rcases HK.out.2 with h | ⟨x, y, hx, hy, hyx⟩
      · rcases u7 with h7 | h7
        · exact .inr (.inl (by omega))
        · exact .inl (by omega)
      · exact .inr (.inr ⟨x, y, hx, by rw [show en - m - 1 = n - st - 1 - m by omega]; exact hy, hyx⟩)
  have hlsum : Hid (X1.length + Y1.length < X.length + Y.length ∧ X2.length + Y2.length < X.length + Y.length) := by
    obtain ⟨c1, c2, c3, c4, c5⟩ := HB.out
    obtain ⟨g1, g2, g3, g4, g5, g6, g7, g8, g9, g10, g11, g12, -⟩ := HG.out
    exact ⟨by omega, by omega⟩
  have S2 : Aside (SW enc w0 blk off (E ++ X1 ++ X2 ++ Y1 ++ Y2 ++ S).toArray wc) := by
    show SW _ _ _ _ _ _
    rw [← hX1, ← hX2, ← hY1, ← hY2, List.append_assoc E, List.take_append_drop, List.append_assoc (E ++ X), List.take_append_drop, HD.out]
    exact S1.out
  have HIHa : Hid (∀ (E' S' : List α), SymOK P enc T (.func (.func g) #[] cb) blk off cap z w0 E' X1 Y1 S' ∨ X1 = [] ∨ Y1 = []) := fun E' S' => by
    by_cases h1 : 0 < X1.length
    · by_cases h2 : 0 < Y1.length
      · exact .inl (HIH.out E' X1 Y1 S' h1 h2 hlsum.out.1 HM1.out.1)
      · exact .inr (.inr (List.length_eq_zero_iff.1 (by omega)))
    · exact .inr (.inl (List.length_eq_zero_iff.1 (by omega)))
  have HIHb : Hid (∀ (E' S' : List α), SymOK P enc T (.func (.func g) #[] cb) blk off cap z w0 E' X2 Y2 S' ∨ X2 = [] ∨ Y2 = []) := fun E' S' => by
    by_cases h1 : 0 < X2.length
    · by_cases h2 : 0 < Y2.length
      · exact .inl (HIH.out E' X2 Y2 S' h1 h2 hlsum.out.2 HM1.out.2)
      · exact .inr (.inr (List.length_eq_zero_iff.1 (by omega)))
    · exact .inr (.inl (List.length_eq_zero_iff.1 (by omega)))
  have HL1 : Hid ((X1 = [] ∨ Y1 = []) → MgO T X1 Y1 (X1 ++ Y1)) := MgO.left HM1.out.1
  have HL2 : Hid ((X2 = [] ∨ Y2 = []) → MgO T X2 Y2 (X2 ++ Y2)) := MgO.left HM1.out.2
  clear hen hX1 hX2 hY1 hY2 S1 HK HRng HXa HYa HD HC HIH hsD HPN hpi S0
  apply_assumption
  exact tail38 K enc T g cb blk off cap z w0 a m b mid n st en E X Y X1 X2 Y1 Y2 S hz1 hbz HG HL1 HL2 HSP HIHa HIHb HRot wc S2 _ _ _ _ _ _ _ _ _ _ _ _ _ _ _ _ _ _ _ _ _ _ _ _ _ _ _ _ _ _ _ _ _ _ _ _ _ _ _ _ _ _ _ _ _ _ _ _ _ _ _ _ _ _ _ _ _ _ _ _ _ _ _ _ _ _ _ _ _ _ _ _ _ _ _ _ _ _ _ _ _ _ _ _ _ _ _ _ _ _ _ _ _ _ _ _ _ _ _ _ _ _ _ _ _ _ _ _ _ _ _ _ _ _ _ _ _ _ _ _ _ _ _ _ _ _ _ _ _ _ _ _ _ _ _ _ _ _ _ _ _ _ _ _ _ _ _ _ _ _ _ _ _ _ _ _ _ _ _ _ _ _ _ _ _ _ _ _ _ _ _ _ _ _ _ _ _ _ _ _ _ _ _ _ _ _ _ _ _ _ _ _ _ _ _ _ _ _ _ _ _ _ _ _ _ _ _ _ _ _ _ _
end Go.Proofs.YtehamdkjdbaceaaDoor.so
