/- Go's own stable sort: two rows are merged, whatever they are. Conditions: as each theorem says. -/
import Derived.Test.YtcekgefkimbfaaaGreatDoorXd
import Derived.Shelf.SlSortCmp.InsertionK
import Derived.Test.YtcekgefkimbfaaaGreatDoorProg
namespace Go.Proofs.YtcekgefkimbfaaaGreatDoor.ps
open Go.RowKit Go.Sort
variable {α : Type} [Inhabited α] {P : Program} {k : Nat}
set_option maxRecDepth 1000000 in
set_option maxHeartbeats 4000000 in
theorem symC (K : KT P k) (enc : α → List Value) (cf : α → α → Int) (T : α → α → Prop) (tr : ∀ a b c, T a b → T b c → T a c) (g : Nat) (cb : Array Value) (blk off cap : Nat) (d0 : Array α) (w0 : World)
    (eg : ∀ args w, (callFunc g args).run P w = .ok (.enter g args) w) (hcmp : CmpLays P g cb enc k cf blk off d0.size w0) (R : RowK enc k w0 blk off d0) (hsz : d0.size ≤ 4398046511104)
    (E X Y S : List α) (hX : 1 < X.length) (hY : 1 < Y.length) (M : Mg (ltOf cf) T X Y) (w : World) (hs : d0.size = (E ++ X ++ Y ++ S).length) (hW : SWK enc k w0 blk off (E ++ X ++ Y ++ S).toArray w)
    (IH : ∀ (E' X' Y' S' : List α), 0 < X'.length → 0 < Y'.length → X'.length + Y'.length < X.length + Y.length → Mg (ltOf cf) T X' Y' → SymOK P k enc T (.func (.func g) #[] cb) blk off cap d0.size w0 E' X' Y' S') :
    Calls P 95 #[.slice (some ⟨blk, off, none⟩) d0.size cap, .int .i64 (E.length : Nat), .int .i64 ((E.length + X.length : Nat) : Int), .int .i64 ((E.length + X.length + Y.length : Nat) : Int), .func (.func g) #[] cb] w fun e w' => e = .returned (.tuple #[]) ∧ ∃ Z, MgO T X Y Z ∧ SWK enc k w0 blk off (E ++ Z ++ S).toArray w' := by
  obtain ⟨z, hz⟩ : ∃ z, d0.size = z := ⟨_, rfl⟩
  obtain ⟨a, ha⟩ : ∃ a, E.length = a := ⟨_, rfl⟩
  obtain ⟨m, hm⟩ : ∃ m, a + X.length = m := ⟨_, rfl⟩
  obtain ⟨b, hb⟩ : ∃ b, m + Y.length = b := ⟨_, rfl⟩
  obtain ⟨mid, hmid⟩ : ∃ mid, (a + b) / 2 = mid := ⟨_, rfl⟩
  obtain ⟨n, hn⟩ : ∃ n, mid + m = n := ⟨_, rfl⟩
  rw [ha, hm, hb, hz]
  have hbz : b ≤ z := by rw [← hz, hs, ← hb, ← hm, ← ha]; simp; omega
  have hz1 : z ≤ 4398046511104 := by omega
  have ham : a + 1 < m := by omega
  have hmb : m + 1 < b := by omega
  have hmid1 : a < mid := by omega
  have hmid2 : mid < b := by omega
  have HN : Hid (2 * mid ≤ a + b ∧ a + b ≤ 2 * mid + 1 ∧ mid + m = n) := ⟨by omega, by omega, hn⟩
  have HB : Hid (a + X.length = m ∧ m + Y.length = b ∧ E.length = a ∧ d0.size = z ∧ (E ++ X ++ Y ++ S).length = z) := ⟨hm, hb, ha, hz, by rw [← hs, hz]⟩
  have HM : Hid (Mg (ltOf cf) T X Y) := M
  have HC : Aside (CmpLays P g cb enc k cf blk off d0.size w0) := hcmp
  have HIH : Aside (∀ (E' X' Y' S' : List α), 0 < X'.length → 0 < Y'.length → X'.length + Y'.length < X.length + Y.length → Mg (ltOf cf) T X' Y' → SymOK P k enc T (.func (.func g) #[] cb) blk off cap z w0 E' X' Y' S') := by show ∀ _, _; rw [← hz]; exact IH
  have S0 : Aside (SWK enc k w0 blk off (E ++ X ++ Y ++ S).toArray w) := hW
  have hsD : (E ++ X ++ Y ++ S).toArray.size = d0.size := by rw [List.size_toArray, hs]
  have HXa : Hid (∀ i x, X[i]? = some x → (E ++ X ++ Y ++ S).toArray[a + i]! = x) := fun i x h => by
    have := at_piece (E := E) (S := Y ++ S) h
    rw [ha, ← List.append_assoc] at this
    exact this
  have HYa : Hid (∀ i y, Y[i]? = some y → (E ++ X ++ Y ++ S).toArray[m + i]! = y) := fun i y h => by
    have := at_piece (E := E ++ X) (S := S) h
    rw [List.length_append, ha, hm] at this
    exact this
  have HRot : Hid (∀ (E' X' Y' S' : List α) (ia im ib : Int) (wx : World), 0 < X'.length → 0 < Y'.length → ia = (E'.length : Nat) → im = ((E'.length + X'.length : Nat) : Int) → ib = ((E'.length + X'.length + Y'.length : Nat) : Int) → (E' ++ X' ++ Y' ++ S').length = z → SWK enc k w0 blk off (E' ++ X' ++ Y' ++ S').toArray wx → Calls P 112 #[.slice (some ⟨blk, off, none⟩) z cap, .int .i64 ia, .int .i64 im, .int .i64 ib, .func (.func g) #[] cb] wx fun e w' => e = .returned (.tuple #[]) ∧ SWK enc k w0 blk off (E' ++ Y' ++ X' ++ S').toArray w') := by
    intro E' X' Y' S' ia im ib wx h1 h2 e1 e2 e3 hl hW'
    subst e1 e2 e3
    have := rotate_any K enc E' X' Y' S' h1 h2 (.func (.func g) #[] cb) blk off cap d0 w0 wx R (by rw [hz, hl]) (by omega) hW'
    rwa [hz] at this
  have mixed := K.mixed; have t0 := K.t0; have a0 := K.a0; have z0 := K.z0; have v0 := K.v0; have t3 := K.t3; have a3 := K.a3; have z3 := K.z3; have v3 := K.v3; have t4 := K.t4; have a4 := K.a4; have z4 := K.z4; have v4 := K.v4; have t22 := K.t22; have a22 := K.a22; have z22 := K.z22; have v22 := K.v22; have t79 := K.t79; have a79 := K.a79; have z79 := K.z79; have v79 := K.v79; have t99 := K.t99; have a99 := K.a99; have z99 := K.z99; have v99 := K.v99; have a36 := K.a36; have z36 := K.z36
  have u22 := run_underlying K.t22
  have FG := K.f95
  have e112 : ∀ args w, (callFunc 112 args).run P w = .ok (.enter 112 args) w := enters_of K.f112 (by kernel_rfl) rfl
  have e95 : ∀ args w, (callFunc 95 args).run P w = .ok (.enter 95 args) w := enters_of K.f95 (by kernel_rfl) rfl
  have hw1 : IntKind.i64.wrap ((m : Int) - (a : Int)) = (m : Int) - (a : Int) := by rw [IntKind.wrap_i64]; omega
  have he1 : ((m : Int) - (a : Int) == 1) = false := by simp; omega
  have he3 : ¬ (m : Int) - (a : Int) = 1 := by omega
  have hw2 : IntKind.i64.wrap ((b : Int) - (m : Int)) = (b : Int) - (m : Int) := by rw [IntKind.wrap_i64]; omega
  have he4 : ¬ (b : Int) - (m : Int) = 1 := by omega
  have hmi : ((a : Int) + (b : Int)) / 2 = (mid : Int) := by omega
  have hni : (mid : Int) + (m : Int) = (n : Int) := by omega
  have hn2 : n ≤ 8796093022208 := by omega
  have hnb : b ≤ n + (b - m) := by omega
  clear hW hs hsz hz ha hm hb hmid hn hcmp M hX hY IH
  generalize hD : (E ++ X ++ Y ++ S).toArray = D at *
  have HD : Hid ((E ++ X ++ Y ++ S).toArray = D) := hD
  clear hD
  go_enter FG, Tryz.ntmps95
  go_upto_if 140 with fail
  go_cut [20, 21] (fun s20 s21 wx => ∃ s0 r0 : Nat, s20 = .int .i64 s0 ∧ s21 = .int .i64 r0 ∧ Rng a m b mid n s0 r0 ∧ wx = w)
  case first =>
    obtain ⟨q1, q2, q3⟩ := HN.out
    by_cases hmm : mid < m
    · have hmm' : (mid : Int) < (m : Int) := by omega
      have hwn : IntKind.i64.wrap ((n : Int) - (b : Int)) = (n : Int) - (b : Int) := by rw [IntKind.wrap_i64]; omega
      have HR : Hid (Rng a m b mid n (n - b) mid ∧ b ≤ n) := ⟨by unfold Rng; omega, by omega⟩
      clear q1 q2 q3
      go_wp2_with fail
      go_meet
      case rel => exact ⟨n - b, mid, by have := HR.out.2; congr 1; omega, rfl, HR.out.1, rfl⟩
    · have hmm' : ¬ (mid : Int) < (m : Int) := by omega
      have HR : Hid (Rng a m b mid n a m) := by unfold Hid Rng; omega
      clear q1 q2 q3
      go_wp2_with fail
      go_meet
      case rel => exact ⟨a, m, rfl, rfl, HR.out, rfl⟩
  case rest =>
  obtain ⟨s0, r0, rfl, rfl, hRng, rfl⟩ := hcut
  have HRng : Hid (Rng a m b mid n s0 r0) := hRng
  have hsr : s0 ≤ r0 := hRng.2.1
  have hrm : r0 ≤ m := hRng.2.2.1
  clear hRng
  obtain ⟨pn, hpn⟩ : ∃ pn, n - 1 = pn := ⟨_, rfl⟩
  have hpi : (n : Int) - 1 = (pn : Int) := by omega
  have HPN : Hid (pn + 1 = n) := by show _ = _; omega
  clear hpn
  go_upto_block 8 with fail
  go_cut [20] (fun s20 wx => ∃ st : Nat, s20 = .int .i64 st ∧ s0 ≤ st ∧ st ≤ r0 ∧ Hid ((st = s0 ∨ ∃ x y, X[st - a - 1]? = some x ∧ Y[n - st - m]? = some y ∧ ltOf cf y x = false) ∧ (st = r0 ∨ ∃ x y, X[st - a]? = some x ∧ Y[n - st - 1 - m]? = some y ∧ ltOf cf y x = true)) ∧ Aside (SWK enc k w0 blk off D wx))
  case first =>
    go_wp2_with fail
    go_loopw [20, 21] (fun s20 s21 wr => ∃ i j : Nat, s20 = .int .i64 i ∧ s21 = .int .i64 j ∧ s0 ≤ i ∧ i ≤ j ∧ j ≤ r0 ∧ Hid ((i = s0 ∨ ∃ x y, X[i - a - 1]? = some x ∧ Y[n - i - m]? = some y ∧ ltOf cf y x = false) ∧ (j = r0 ∨ ∃ x y, X[j - a]? = some x ∧ Y[n - j - 1 - m]? = some y ∧ ltOf cf y x = true)) ∧ Aside (SWK enc k w0 blk off D wr)) (fun s20 s21 _ => (intOf s21).toNat - (intOf s20).toNat)
    case atStart => exact ⟨s0, r0, rfl, rfl, Nat.le_refl _, hsr, Nat.le_refl _, ⟨.inl rfl, .inl rfl⟩, S0⟩
    case round =>
      obtain ⟨i, j, rfl, rfl, hai, hij, hjb, HK, S1⟩ := hrel
      by_cases hlt : i < j
      · have hlt' : (i : Int) < (j : Int) := by omega
        have hi0 : (0 : Int) ≤ (i : Int) := by omega
        have hj3 : (j : Int) ≤ 4398046511104 := by omega
        obtain ⟨h, hh⟩ : ∃ h : Nat, (i + j) / 2 = h := ⟨_, rfl⟩
        have hh' : ((i : Int) + (j : Int)) / 2 = (h : Int) := by omega
        have hhij : i ≤ h ∧ h < j := by omega
        obtain ⟨u1, u2, u3, u4, u5, u6, u7⟩ := HRng.out
        obtain ⟨q1, q2, q3⟩ := HN.out
        obtain ⟨c1, c2, c3, c4, c5⟩ := HB.out
        have hpn := HPN.out
        obtain ⟨q, hq⟩ : ∃ q, pn - h = q := ⟨_, rfl⟩
        have hq' : (pn : Int) - (h : Int) = (q : Int) := by omega
        have hqm : m ≤ q ∧ q < b := by omega
        have hha : a ≤ h ∧ h < m := by omega
        have hhz : (h : Int) < (z : Int) := by omega
        have hh0 : (0 : Int) ≤ (h : Int) := by omega
        have hqz : (q : Int) < (z : Int) := by omega
        have hq0 : (0 : Int) ≤ (q : Int) := by omega
        have hwq : IntKind.i64.wrap (q : Int) = (q : Int) := by rw [IntKind.wrap_i64]; omega
        obtain ⟨x, hx⟩ : ∃ x, X[h - a]? = some x := ⟨_, List.getElem?_eq_getElem (by omega)⟩
        obtain ⟨y, hy⟩ : ∃ y, Y[q - m]? = some y := ⟨_, List.getElem?_eq_getElem (by omega)⟩
        have hxD : D[h]! = x := by have := HXa.out _ _ hx; rwa [show a + (h - a) = h by omega] at this
        have hyD : D[q]! = y := by have := HYa.out _ _ hy; rwa [show m + (q - m) = q by omega] at this
        have HXY : Hid (X[h - a]? = some x ∧ Y[q - m]? = some y ∧ q = n - h - 1) := ⟨hx, hy, by omega⟩
        have l1 := S1.out.ld R (by omega) P q (by omega)
        have l2 := S1.out.ld R (by omega) P h (by omega)
        have hcg := S1.out.cmp HC.out (by omega) y x
        rw [hyD] at l1
        rw [hxD] at l2
        clear hx hy hxD hyD hh hq u1 u2 u3 u4 u5 u6 u7 q1 q2 q3 c1 c2 c3 c4 c5 hpn hqm hha
        by_cases hlv : cf y x < 0
        · have hlv2 : ¬ (0 ≤ cf y x) := by omega
          go_wp2_with fail
          try simp only [hh']
          go_quiet_grown (first | (go_at_fn g; refine Calls.grown_of (hcg _ _)))
          go_wp2_with fail
          exact ⟨⟨i, h, rfl, rfl, hai, by omega, by omega, ⟨HK.out.1, .inr ⟨x, y, HXY.out.1, by rw [← HXY.out.2.2]; exact HXY.out.2.1, decide_eq_true hlv⟩⟩, S1.out.grown nq osq⟩, by simp [intOf]; omega⟩
        · have hlc : (!decide (cf y x < 0)) = true := by simp; omega
          go_wp2_with fail
          try simp only [hh']
          go_quiet_grown (first | (go_at_fn g; refine Calls.grown_of (hcg _ _)))
          go_wp2_with fail
          exact ⟨⟨h + 1, j, rfl, rfl, by omega, by omega, hjb, ⟨.inr ⟨x, y, by rw [show h + 1 - a - 1 = h - a by omega]; exact HXY.out.1, by rw [show n - (h + 1) - m = q - m by have := HXY.out.2.2; omega]; exact HXY.out.2.1, decide_eq_false (by omega)⟩, HK.out.2⟩, S1.out.grown nq osq⟩, by simp [intOf]; omega⟩
      · have hlt' : ¬ (i : Int) < (j : Int) := by omega
        have e : i = j := by omega
        subst e
        go_wp2_with fail
        go_meet
        case rel => exact ⟨i, rfl, hai, hjb, HK, S1⟩
  case rest =>
  obtain ⟨st, rfl, hs1, hs2, HK, S1⟩ := hcut
  obtain ⟨en, hen⟩ : ∃ en, n - st = en := ⟨_, rfl⟩
  obtain ⟨X1, hX1⟩ : ∃ l, X.take (st - a) = l := ⟨_, rfl⟩
  obtain ⟨X2, hX2⟩ : ∃ l, X.drop (st - a) = l := ⟨_, rfl⟩
  obtain ⟨Y1, hY1⟩ : ∃ l, Y.take (en - m) = l := ⟨_, rfl⟩
  obtain ⟨Y2, hY2⟩ : ∃ l, Y.drop (en - m) = l := ⟨_, rfl⟩
  have HG : Hid (a ≤ st ∧ st ≤ m ∧ st ≤ mid ∧ m ≤ en ∧ en ≤ b ∧ n = en + st ∧ E.length = a ∧ X1.length = st - a ∧ X2.length = m - st ∧ Y1.length = en - m ∧ Y2.length = b - en ∧ mid + m = n ∧ (E ++ X1 ++ X2 ++ Y1 ++ Y2 ++ S).length = z) := by
    obtain ⟨u1, u2, u3, u4, u5, u6, u7⟩ := HRng.out
    obtain ⟨q1, q2, q3⟩ := HN.out
    obtain ⟨c1, c2, c3, c4, c5⟩ := HB.out
    refine ⟨by omega, by omega, by omega, by omega, by omega, by omega, c3, ?_, ?_, ?_, ?_, q3, ?_⟩
    · rw [← hX1, List.length_take]; omega
    · rw [← hX2, List.length_drop]; omega
    · rw [← hY1, List.length_take]; omega
    · rw [← hY2, List.length_drop]; omega
    · rw [← hX1, ← hX2, ← hY1, ← hY2, List.append_assoc E, List.take_append_drop, List.append_assoc (E ++ X), List.take_append_drop]; exact c5
  have HM1 : Hid (Mg (ltOf cf) T X1 Y1 ∧ Mg (ltOf cf) T X2 Y2) := by rw [← hX1, ← hX2, ← hY1, ← hY2]; exact ⟨HM.out.take _ _, HM.out.drop _ _⟩
  have HSP : Hid (∀ Z1 Z2, MgO T X1 Y1 Z1 → MgO T X2 Y2 Z2 → MgO T X Y (Z1 ++ Z2)) := by
    intro Z1 Z2 g1 g2
    rw [← hX1, ← hY1] at g1
    rw [← hX2, ← hY2] at g2
    obtain ⟨u1, u2, u3, u4, u5, u6, u7⟩ := HRng.out
    obtain ⟨q1, q2, q3⟩ := HN.out
    obtain ⟨c1, c2, c3, c4, c5⟩ := HB.out
    refine mg_split tr HM.out ?_ ?_ g1 g2
    · rcases HK.out.1 with h | ⟨x, y, hx, hy, hyx⟩
      · rcases u6 with h6 | h6
        · exact .inl (by omega)
        · exact .inr (.inl (by omega))
      · exact .inr (.inr ⟨x, y, hx, by rw [show en - m = n - st - m by omega]; exact hy, hyx⟩)
    · rcases HK.out.2 with h | ⟨x, y, hx, hy, hyx⟩
      · rcases u7 with h7 | h7
        · exact .inr (.inl (by omega))
        · exact .inl (by omega)
      · exact .inr (.inr ⟨x, y, hx, by rw [show en - m - 1 = n - st - 1 - m by omega]; exact hy, hyx⟩)
  have hlsum : Hid (X1.length + Y1.length < X.length + Y.length ∧ X2.length + Y2.length < X.length + Y.length) := by
    obtain ⟨c1, c2, c3, c4, c5⟩ := HB.out
    obtain ⟨g1, g2, g3, g4, g5, g6, g7, g8, g9, g10, g11, g12, -⟩ := HG.out
    exact ⟨by omega, by omega⟩
  have S2 : Aside (SWK enc k w0 blk off (E ++ X1 ++ X2 ++ Y1 ++ Y2 ++ S).toArray wc) := by
    show SWK _ _ _ _ _ _ _
    rw [← hX1, ← hX2, ← hY1, ← hY2, List.append_assoc E, List.take_append_drop, List.append_assoc (E ++ X), List.take_append_drop, HD.out]
    exact S1.out
  have HIHa : Hid (∀ (E' S' : List α), SymOK P k enc T (.func (.func g) #[] cb) blk off cap z w0 E' X1 Y1 S' ∨ X1 = [] ∨ Y1 = []) := fun E' S' => by
    by_cases h1 : 0 < X1.length
    · by_cases h2 : 0 < Y1.length
      · exact .inl (HIH.out E' X1 Y1 S' h1 h2 hlsum.out.1 HM1.out.1)
      · exact .inr (.inr (List.length_eq_zero_iff.1 (by omega)))
    · exact .inr (.inl (List.length_eq_zero_iff.1 (by omega)))
  have HIHb : Hid (∀ (E' S' : List α), SymOK P k enc T (.func (.func g) #[] cb) blk off cap z w0 E' X2 Y2 S' ∨ X2 = [] ∨ Y2 = []) := fun E' S' => by
    by_cases h1 : 0 < X2.length
    · by_cases h2 : 0 < Y2.length
      · exact .inl (HIH.out E' X2 Y2 S' h1 h2 hlsum.out.2 HM1.out.2)
      · exact .inr (.inr (List.length_eq_zero_iff.1 (by omega)))
    · exact .inr (.inl (List.length_eq_zero_iff.1 (by omega)))
  have HL1 : Hid ((X1 = [] ∨ Y1 = []) → MgO T X1 Y1 (X1 ++ Y1)) := MgO.left HM1.out.1
  have HL2 : Hid ((X2 = [] ∨ Y2 = []) → MgO T X2 Y2 (X2 ++ Y2)) := MgO.left HM1.out.2
  clear hen hX1 hX2 hY1 hY2 S1 HK HRng HXa HYa HD HC HIH hsD HPN hpi S0
  apply_assumption
  exact tail38 K enc T g cb blk off cap z w0 a m b mid n st en E X Y X1 X2 Y1 Y2 S hz1 hbz HG HL1 HL2 HSP HIHa HIHb HRot wc S2 _ _ _ _ _ _ _ _ _ _ _ _ _ _ _ _ _ _ _ _ _ _ _ _ _ _ _ _ _ _ _ _ _ _ _ _ _ _ _ _ _ _ _ _ _ _ _ _ _ _ _ _ _ _ _ _ _ _ _ _ _ _ _ _ _ _ _ _ _ _ _ _ _ _ _ _ _ _ _ _ _ _ _ _ _ _ _ _ _ _ _ _ _ _ _ _ _ _ _ _ _ _ _ _ _ _ _ _ _ _ _ _ _ _ _ _ _ _ _ _ _ _ _ _ _ _ _ _ _ _ _ _ _ _ _ _ _ _ _ _ _ _ _ _ _ _ _ _ _ _ _ _ _ _ _ _ _ _ _ _ _ _ _ _ _ _ _ _ _ _ _ _ _ _ _ _ _ _ _ _ _ _ _ _ _ _ _ _ _ _ _ _ _ _ _ _ _ _ _ _ _ _ _ _ _ _ _ _ _ _ _ _
end Go.Proofs.YtcekgefkimbfaaaGreatDoor.ps
/- Go's own stable sort: a merge of any two rows; rows of a size, one behind the other; an insertion sort keeps the order of equals. Conditions: as each theorem says. -/
namespace Go.Proofs.YtcekgefkimbfaaaGreatDoor.ps
open Go.RowKit Go.Sort
variable {α : Type} [Inhabited α] {P : Program} {k : Nat}
theorem sym_any (K : KT P k) (enc : α → List Value) (cf : α → α → Int) (T : α → α → Prop) (tr : ∀ a b c, T a b → T b c → T a c) (g : Nat) (cb : Array Value) (blk off cap : Nat) (d0 : Array α) (w0 : World)
    (eg : ∀ args w, (callFunc g args).run P w = .ok (.enter g args) w) (hcmp : CmpLays P g cb enc k cf blk off d0.size w0) (R : RowK enc k w0 blk off d0) (hsz : d0.size ≤ 4398046511104) :
    ∀ (N : Nat) (E X Y S : List α), X.length + Y.length ≤ N → 0 < X.length → 0 < Y.length → Mg (ltOf cf) T X Y → SymOK P k enc T (.func (.func g) #[] cb) blk off cap d0.size w0 E X Y S := by
  intro N
  induction N with
  | zero => intro E X Y S h h1; omega
  | succ N ih =>
    intro E X Y S hN hX hY M ia im ib w e1 e2 e3 hl hW
    subst e1 e2 e3
    by_cases h1 : X.length = 1
    · obtain ⟨x, rfl⟩ : ∃ x, X = [x] := List.length_eq_one_iff.1 h1
      exact symA K enc cf T tr g cb blk off cap d0 w0 eg hcmp R hsz E x Y S hY M w hl.symm hW
    · by_cases h2 : Y.length = 1
      · obtain ⟨y, rfl⟩ : ∃ y, Y = [y] := List.length_eq_one_iff.1 h2
        exact symB K enc cf T tr g cb blk off cap d0 w0 eg hcmp R hsz E X y S (by omega) M w hl.symm hW
      · exact symC K enc cf T tr g cb blk off cap d0 w0 eg hcmp R hsz E X Y S (by omega) (by omega) M w hl.symm hW (fun E' X' Y' S' g1 g2 g3 g4 => ih E' X' Y' S' (by omega) g1 g2 g4)
/-- One is put in from behind. -/
theorem insInner_list (lt : α → α → Bool) (E : List α) (x : α) : ∀ (N : Nat) (A Q : List α), A.length = N → ∃ A1 A2, A = A1 ++ A2 ∧ insInner lt E.length (E.length + A.length) (E ++ A ++ [x] ++ Q).toArray = (E ++ A1 ++ [x] ++ A2 ++ Q).toArray ∧ (∀ y ∈ A2, lt x y = true) ∧ (∀ y, A1.getLast? = some y → lt x y = false) := by
  intro N
  induction N with
  | zero =>
    intro A Q h
    have e : A = [] := List.length_eq_zero_iff.1 h
    subst e
    exact ⟨[], [], rfl, by rw [insInner_stop _ _ _ _ (.inl (by simp))]; simp, by simp, by simp⟩
  | succ N ih =>
    intro A Q h
    have hn : A ≠ [] := fun e => by rw [e] at h; simp at h
    obtain ⟨A', y, rfl⟩ : ∃ A' y, A = A' ++ [y] := ⟨A.dropLast, A.getLast hn, (List.dropLast_concat_getLast hn).symm⟩
    have hl : A'.length = N := by simpa using h
    have hx : (E ++ (A' ++ [y]) ++ [x] ++ Q).toArray[E.length + (A' ++ [y]).length]! = x := at_get (by
      rw [show E ++ (A' ++ [y]) ++ [x] ++ Q = (E ++ (A' ++ [y])) ++ ([x] ++ Q) by simp, List.getElem?_append_right (by simp)]
      simp)
    have hy : (E ++ (A' ++ [y]) ++ [x] ++ Q).toArray[E.length + (A' ++ [y]).length - 1]! = y := at_get (by
      rw [show E ++ (A' ++ [y]) ++ [x] ++ Q = (E ++ A') ++ ([y] ++ [x] ++ Q) by simp, List.getElem?_append_right (by simp <;> omega)]
      simp)
    by_cases hlt : lt x y = true
    · obtain ⟨A1, A2, e, h1, h2, h3⟩ := ih A' ([y] ++ Q) hl
      refine ⟨A1, A2 ++ [y], by rw [e]; simp, ?_, ?_, h3⟩
      · rw [insInner_go lt E.length _ _ (by simp <;> omega) (by rw [hx, hy]; exact hlt)]
        have es : swp (E ++ (A' ++ [y]) ++ [x] ++ Q).toArray (E.length + (A' ++ [y]).length) (E.length + (A' ++ [y]).length - 1) = (E ++ A' ++ [x] ++ ([y] ++ Q)).toArray := by
          have := swp_two (E ++ A') Q y x
          rw [show E ++ (A' ++ [y]) ++ [x] ++ Q = (E ++ A') ++ y :: x :: Q by simp, show E ++ A' ++ [x] ++ ([y] ++ Q) = (E ++ A') ++ x :: y :: Q by simp, show E.length + (A' ++ [y]).length - 1 = (E ++ A').length by simp <;> omega, show E.length + (A' ++ [y]).length = (E ++ A').length + 1 by simp <;> omega]
          exact this
        rw [es, show E.length + (A' ++ [y]).length - 1 = E.length + A'.length by simp <;> omega, h1]
        simp
      · intro z hz
        rcases List.mem_append.1 hz with hz | hz
        · exact h2 z hz
        · have ez : z = y := by simpa using hz
          rw [ez]; exact hlt
    · have hlf : lt x y = false := by simpa using hlt
      exact ⟨A' ++ [y], [], by simp, by rw [insInner_stop _ _ _ _ (.inr (by rw [hx, hy]; exact hlf))]; simp, by simp, fun z hz => by
        have ez : z = y := by simpa using hz.symm
        rw [ez]; exact hlf⟩
/-- Who stood ahead, and how that goes with the order. -/
def Jn (lt : α → α → Bool) (T J : α → α → Prop) : Prop := ∀ a b, J a b → (lt b a = false → T a b) ∧ (lt b a = true → T b a)
theorem insOuter_list (lt : α → α → Bool) (T J : α → α → Prop) (tr : ∀ a b c, T a b → T b c → T a c) (hJ : Jn lt T J) (E R : List α) : ∀ (N : Nat) (A B : List α), B.length = N → A.Pairwise T → B.Pairwise J → (∀ a ∈ A, ∀ b ∈ B, J a b) →
    ∃ Z, Z.Perm (A ++ B) ∧ Z.Pairwise T ∧ insOuter lt E.length (E.length + A.length + B.length) (E.length + A.length) (E ++ A ++ B ++ R).toArray = (E ++ Z ++ R).toArray := by
  intro N
  induction N with
  | zero =>
    intro A B h hA _ _
    have e : B = [] := List.length_eq_zero_iff.1 h
    subst e
    exact ⟨A, by simp, hA, by rw [insOuter_stop _ _ _ _ _ (by simp)]; simp⟩
  | succ N ih =>
    intro A B h hA hB hAB
    obtain ⟨x, B', rfl⟩ : ∃ x B', B = x :: B' := List.exists_cons_of_ne_nil (fun e => by rw [e] at h; simp at h)
    obtain ⟨A1, A2, rfl, h1, h2, h3⟩ := insInner_list lt E x A.length A (B' ++ R) rfl
    have hB' := List.pairwise_cons.1 hB
    have hA' := List.pairwise_append.1 hA
    have hP : (A1 ++ [x] ++ A2).Pairwise T := by
      refine List.pairwise_append.2 ⟨pw_join tr hA'.1 (by simp) (fun u v hu hv => ?_), hA'.2.1, fun u hu v hv => ?_⟩
      · have ev : v = x := by simpa using hv.symm
        subst ev
        exact (hJ u v (hAB u (List.mem_append_left _ (List.mem_of_getLast? hu)) v (by simp))).1 (h3 u hu)
      · rcases List.mem_append.1 hu with hu | hu
        · exact hA'.2.2 u hu v hv
        · have eu : u = x := by simpa using hu
          subst eu
          exact (hJ v u (hAB v (List.mem_append_right _ hv) u (by simp))).2 (h2 v hv)
    have hperm : (A1 ++ [x] ++ A2).Perm (A1 ++ A2 ++ [x]) := by
      rw [List.append_assoc, List.append_assoc]
      exact List.Perm.append_left _ List.perm_append_comm
    obtain ⟨Z, z1, z2, z3⟩ := ih (A1 ++ [x] ++ A2) B' (by simpa using h) hP hB'.2 (fun a ha b hb => by
      rcases List.mem_append.1 (hperm.mem_iff.1 ha) with ha | ha
      · exact hAB a ha b (by simp [hb])
      · have ea : a = x := by simpa using ha
        subst ea
        exact hB'.1 b hb)
    refine ⟨Z, z1.trans ?_, z2, ?_⟩
    · rw [show A1 ++ A2 ++ x :: B' = (A1 ++ A2 ++ [x]) ++ B' by simp]
      exact hperm.append_right B'
    · rw [insOuter_go _ _ _ _ _ (by simp)]
      have e1 : E ++ (A1 ++ A2) ++ x :: B' ++ R = E ++ (A1 ++ A2) ++ [x] ++ (B' ++ R) := by simp
      rw [e1, h1]
      rw [show E ++ A1 ++ [x] ++ A2 ++ (B' ++ R) = E ++ (A1 ++ [x] ++ A2) ++ B' ++ R by simp]
      have l1 : (A1 ++ [x] ++ A2).length = (A1 ++ A2).length + 1 := by simp <;> omega
      rw [l1] at z3
      rw [show E.length + (A1 ++ A2).length + (x :: B').length = E.length + ((A1 ++ A2).length + 1) + B'.length by simp <;> omega, show E.length + (A1 ++ A2).length + 1 = E.length + ((A1 ++ A2).length + 1) by omega]
      exact z3
theorem insertion_list (lt : α → α → Bool) (T J : α → α → Prop) (tr : ∀ a b c, T a b → T b c → T a c) (hJ : Jn lt T J) (E C R : List α) (hC : C.Pairwise J) :
    ∃ Z, Z.Perm C ∧ Z.Pairwise T ∧ Sort.insertionSort lt (E ++ C ++ R).toArray E.length (E.length + C.length) = (E ++ Z ++ R).toArray := by
  cases C with
  | nil => exact ⟨[], List.Perm.refl _, by simp, by unfold Sort.insertionSort; rw [insOuter_stop _ _ _ _ _ (by simp <;> omega)]⟩
  | cons x B =>
    have hB := List.pairwise_cons.1 hC
    obtain ⟨Z, z1, z2, z3⟩ := insOuter_list lt T J tr hJ E R B.length [x] B rfl (by simp) hB.2 (fun a ha b hb => by
      have ea : a = x := by simpa using ha
      subst ea
      exact hB.1 b hb)
    refine ⟨Z, z1, z2, ?_⟩
    unfold Sort.insertionSort
    have e : E ++ [x] ++ B ++ R = E ++ x :: B ++ R := by simp
    rw [e] at z3
    rw [show E.length + (x :: B).length = E.length + [x].length + B.length by simp <;> omega]
    exact z3
end Go.Proofs.YtcekgefkimbfaaaGreatDoor.ps
/- The contract of the insertion sort of package slices at this program's cells with texts, laid out of the shelf in plain words. Nothing is walked here. -/
namespace Go.Proofs
open Go.Shelf
def Tryz.sortF_ren : Go.Shelf.Ren := ⟨fun | 6 => 38 | 15 => 55 | 14 => 54 | 28 => 80 | 29 => 81 | 20 => 72 | 21 => 73 | 22 => 74 | 23 => 75 | 24 => 76 | 25 => 77 | 26 => 78 | 27 => 79 | 46 => 96 | 47 => 97 | 48 => 98 | 49 => 99 | 50 => 100 | 57 => 113 | n => n, fun | 22 => 22 | 24 => 36 | 25 => 79 | 3 => 3 | 39 => 99 | 0 => 0 | 53 => 134 | 55 => 136 | 4 => 4 | 46 => 128 | 45 => 127 | 50 => 122 | 5 => 5 | 9 => 9 | 66 => 163 | 70 => 167 | 76 => 183 | 77 => 44 | n => n, fun | n => n⟩
theorem Tryz.sortF : Go.Proofs.SlLaysF0.n20 Tryz.prog Tryz.sortF_ren := {
  mixed := by kernel_rfl
  f20 := ⟨Tryz.f72.name, by decide, Tryz.func72.trans (congrArg some (by kernel_rfl))⟩
  t0 := Tryz.underlying0
  a0 := Tryz.isAgg0
  z0 := Tryz.sizeOf0
  v0 := Tryz.zeroValue0
  t3 := Tryz.underlying3
  a3 := Tryz.isAgg3
  z3 := Tryz.sizeOf3
  v3 := Tryz.zeroValue3
  t4 := Tryz.underlying4
  a4 := Tryz.isAgg4
  z4 := Tryz.sizeOf4
  v4 := Tryz.zeroValue4
  t22 := Tryz.underlying22
  a22 := Tryz.isAgg22
  z22 := Tryz.sizeOf22
  v22 := Tryz.zeroValue22
  t25 := Tryz.underlying79
  a25 := Tryz.isAgg79
  z25 := Tryz.sizeOf79
  v25 := Tryz.zeroValue79
}
end Go.Proofs
/- Go's own stable sort, whole: it puts in order, and equals stay as they stood. Conditions: as each theorem says. -/
namespace Go.Proofs.YtcekgefkimbfaaaGreatDoor.ps
open Go.RowKit Go.Sort
/-- Rows of a size, each in order, one behind the other; the last one may be short. -/
inductive Ch {α : Type} (T J : α → α → Prop) (bs : Nat) : List α → Prop
  | last {l : List α} : l.length ≤ bs → l.Pairwise T → Ch T J bs l
  | cons {c l : List α} : c.length = bs → c.Pairwise T → (∀ x ∈ c, ∀ y ∈ l, J x y) → Ch T J bs l → Ch T J bs (c ++ l)
section
variable {α : Type} {T J : α → α → Prop} {bs : Nat}
theorem Ch.small {l : List α} (h : Ch T J bs l) (hl : l.length ≤ bs) : l.Pairwise T := by
  cases h with
  | last _ h => exact h
  | @cons c l hc hp hj hr =>
    have e : l = [] := List.length_eq_zero_iff.1 (by simp at hl; omega)
    subst e
    rw [List.append_nil]
    exact hp
theorem Ch.one {l : List α} (h : Ch T J bs l) (hl : bs < l.length) : ∃ c r, l = c ++ r ∧ c.length = bs ∧ c.Pairwise T ∧ (∀ x ∈ c, ∀ y ∈ r, J x y) ∧ Ch T J bs r := by
  cases h with
  | last h _ => omega
  | @cons c l hc hp hj hr => exact ⟨c, l, rfl, hc, hp, hj, hr⟩
theorem Ch.two {l : List α} (h : Ch T J bs l) (h0 : 0 < bs) (hl : 2 * bs ≤ l.length) : ∃ c d r, l = c ++ d ++ r ∧ c.length = bs ∧ d.length = bs ∧ c.Pairwise T ∧ d.Pairwise T ∧ (∀ x ∈ c, ∀ y ∈ d, J x y) ∧ (∀ x ∈ c ++ d, ∀ y ∈ r, J x y) ∧ Ch T J bs r := by
  obtain ⟨c, r, rfl, hc, hp, hj, hr⟩ := h.one (by omega)
  have hrl : bs ≤ r.length := by simp at hl; omega
  by_cases e : r.length = bs
  · exact ⟨c, r, [], by simp, hc, e, hp, hr.small (by omega), hj, by simp, .last (by simp) (by simp)⟩
  · obtain ⟨d, s, rfl, hd, hp', hj', hr'⟩ := hr.one (by omega)
    refine ⟨c, d, s, by simp, hc, hd, hp, hp', fun x hx y hy => hj x hx y (List.mem_append_left _ hy), fun x hx y hy => ?_, hr'⟩
    rcases List.mem_append.1 hx with hx | hx
    · exact hj x hx y (List.mem_append_right _ hy)
    · exact hj' x hx y hy
/-- What may stand ahead of such rows. -/
def Pre (T J : α → α → Prop) (bs : Nat) (E : List α) : Prop := ∀ R, Ch T J bs R → (∀ x ∈ E, ∀ y ∈ R, J x y) → Ch T J bs (E ++ R)
theorem Pre.nil : Pre T J bs [] := fun _ h _ => h
theorem Pre.snoc {E c : List α} (h : Pre T J bs E) (hc : c.length = bs) (hp : c.Pairwise T) (hj : ∀ x ∈ E, ∀ y ∈ c, J x y) : Pre T J bs (E ++ c) := fun R hR hx => by
  rw [List.append_assoc]
  refine h _ (.cons hc hp (fun x hx' y hy => hx x (List.mem_append_right _ hx') y hy) hR) (fun x hx' y hy => ?_)
  rcases List.mem_append.1 hy with hy | hy
  · exact hj x hx' y hy
  · exact hx x (List.mem_append_left _ hx') y hy
/-- All that is known on the way: what is done, what is left. -/
structure Way (T J : α → α → Prop) (bs bs' : Nat) (D0 E R : List α) : Prop where
  pre : Pre T J bs' E
  rest : Ch T J bs R
  cross : ∀ x ∈ E, ∀ y ∈ R, J x y
  perm : (E ++ R).Perm D0
theorem Way.merge {D0 E c d r Z : List α} (h : Way T J bs (2 * bs) D0 E (c ++ d ++ r)) (hc : c.length = bs) (hd : d.length = bs) (hj : ∀ x ∈ c ++ d, ∀ y ∈ r, J x y) (hr : Ch T J bs r) (hZ : MgO T c d Z) : Way T J bs (2 * bs) D0 (E ++ Z) r := by
  have hm : ∀ z, z ∈ Z ↔ z ∈ c ++ d := fun z => hZ.1.mem_iff
  refine ⟨h.pre.snoc (by rw [hZ.1.length_eq]; simp; omega) hZ.2 (fun x hx y hy => h.cross x hx y (List.mem_append_left _ ((hm y).1 hy))), hr, fun x hx y hy => ?_, ?_⟩
  · rcases List.mem_append.1 hx with hx | hx
    · exact h.cross x hx y (List.mem_append_right _ hy)
    · exact hj x ((hm x).1 hx) y hy
  · refine List.Perm.trans ?_ h.perm
    rw [List.append_assoc]
    exact List.Perm.append_left _ (hZ.1.append_right r)
theorem Way.last {D0 E R Z : List α} (h : Way T J bs (2 * bs) D0 E R) (hl : Z.length ≤ 2 * bs) (hZ : Z.Perm R) (hp : Z.Pairwise T) : Ch T J (2 * bs) (E ++ Z) ∧ (E ++ Z).Perm D0 :=
  ⟨h.pre Z (.last hl hp) (fun x hx y hy => h.cross x hx y (hZ.mem_iff.1 hy)), (List.Perm.append_left _ hZ).trans h.perm⟩
/-- The same while single ones are put in order. -/
structure Way1 (T J : α → α → Prop) (bs : Nat) (D0 E R : List α) : Prop where
  pre : Pre T J bs E
  rest : R.Pairwise J
  cross : ∀ x ∈ E, ∀ y ∈ R, J x y
  perm : (E ++ R).Perm D0
theorem Way1.step {D0 E C r Z : List α} (h : Way1 T J bs D0 E (C ++ r)) (hc : C.length = bs) (hZ : Z.Perm C) (hp : Z.Pairwise T) : Way1 T J bs D0 (E ++ Z) r := by
  have hR := List.pairwise_append.1 h.rest
  refine ⟨h.pre.snoc (by rw [hZ.length_eq]; exact hc) hp (fun x hx y hy => h.cross x hx y (List.mem_append_left _ (hZ.mem_iff.1 hy))), hR.2.1, fun x hx y hy => ?_, ?_⟩
  · rcases List.mem_append.1 hx with hx | hx
    · exact h.cross x hx y (List.mem_append_right _ hy)
    · exact hR.2.2 x (hZ.mem_iff.1 hx) y hy
  · refine List.Perm.trans ?_ h.perm
    rw [List.append_assoc]
    exact List.Perm.append_left _ (hZ.append_right r)
theorem Way1.last {D0 E R Z : List α} (h : Way1 T J bs D0 E R) (hl : R.length ≤ bs) (hZ : Z.Perm R) (hp : Z.Pairwise T) : Ch T J bs (E ++ Z) ∧ (E ++ Z).Perm D0 :=
  ⟨h.pre Z (.last (by rw [hZ.length_eq]; exact hl) hp) (fun x hx y hy => h.cross x hx y (hZ.mem_iff.1 hy)), (List.Perm.append_left _ hZ).trans h.perm⟩
theorem Jn.mg {lt : α → α → Bool} (hJ : Jn lt T J) {c d : List α} (hc : c.Pairwise T) (hd : d.Pairwise T) (h : ∀ x ∈ c, ∀ y ∈ d, J x y) : Mg lt T c d :=
  ⟨hc, hd, fun a ha b hb => (hJ a b (h a ha b hb)).1, fun a ha b hb => (hJ a b (h a ha b hb)).2⟩
end
variable {α : Type} [Inhabited α]
theorem insertion_any (enc : α → List Value) (cf : α → α → Int) (T J : α → α → Prop) (tr : ∀ a b c, T a b → T b c → T a c) (hJ : Jn (ltOf cf) T J) (g : Nat) (cb : Array Value) (blk off cap : Nat) (d0 : Array α) (w0 : World)
    (eg : ∀ args w, (callFunc g args).run Tryz.prog w = .ok (.enter g args) w) (hcmp : ∀ wx, CmpLays Tryz.prog g cb enc 3 cf blk off d0.size wx) (R : RowK enc 3 w0 blk off d0) (hsz : d0.size ≤ 4398046511104)
    (E C S : List α) (ia ib : Int) (w : World) (e1 : ia = (E.length : Nat)) (e2 : ib = ((E.length + C.length : Nat) : Int)) (hl : (E ++ C ++ S).length = d0.size) (hC : C.Pairwise J) (hW : SWK enc 3 w0 blk off (E ++ C ++ S).toArray w) :
    Calls Tryz.prog 72 #[.slice (some ⟨blk, off, none⟩) d0.size cap, .int .i64 ia, .int .i64 ib, .func (.func g) #[] cb] w fun e w' => e = .returned (.tuple #[]) ∧ ∃ Z, Z.Perm C ∧ Z.Pairwise T ∧ SWK enc 3 w0 blk off (E ++ Z ++ S).toArray w' := by
  subst e1 e2
  have hsD : (E ++ C ++ S).toArray.size = d0.size := by rw [List.size_toArray, hl]
  obtain ⟨Z, z1, z2, z3⟩ := insertion_list (ltOf cf) T J tr hJ E C S hC
  have h := AnyQ.insertionSortCmpFunc (P := Tryz.prog) (ρ := Tryz.sortF_ren) { Tryz.sortF with } 3 Tryz.isAgg36 Tryz.sizeOf36 enc R.hk R.h1 cf g cb blk off cap E.length (E.length + C.length) (E ++ C ++ S).toArray w eg (by rw [hsD]; exact hcmp w) (hW.holds R.hblk R.hH hsD) (hW.lt R.hblk) (by omega) (by simp <;> omega) (by rw [hsD]; omega)
  change Calls Tryz.prog 72 _ _ _ at h
  rw [hsD, z3] at h
  refine h.mono ?_
  rintro e w' ⟨rfl, n, os, rfl⟩
  refine ⟨rfl, Z, z1, z2, hW.on R.hblk n _ os ?_⟩
  rw [List.size_toArray, List.size_toArray, List.length_append, List.length_append, List.length_append, List.length_append, z1.length_eq]
set_option maxRecDepth 1000000 in
set_option maxHeartbeats 4000000 in
theorem stable_any (enc : α → List Value) (cf : α → α → Int) (T J : α → α → Prop) (tr : ∀ a b c, T a b → T b c → T a c) (hJ : Jn (ltOf cf) T J) (g : Nat) (cb : Array Value) (blk off cap : Nat) (d0 : Array α) (w0 : World)
    (eg : ∀ args w, (callFunc g args).run Tryz.prog w = .ok (.enter g args) w) (hcmp : ∀ wx, CmpLays Tryz.prog g cb enc 3 cf blk off d0.size wx) (R : RowK enc 3 w0 blk off d0) (hsz : d0.size ≤ 4398046511104)
    (D0 : List α) (w : World) (hl : D0.length = d0.size) (hD : D0.Pairwise J) (hW : SWK enc 3 w0 blk off D0.toArray w) :
    Calls Tryz.prog 71 #[.slice (some ⟨blk, off, none⟩) d0.size cap, .int .i64 (d0.size : Nat), .func (.func g) #[] cb] w fun e w' => e = .returned (.tuple #[]) ∧ ∃ Z : List α, Z.Perm D0 ∧ Z.Pairwise T ∧ SWK enc 3 w0 blk off Z.toArray w' := by
  obtain ⟨z, hz⟩ : ∃ z, d0.size = z := ⟨_, rfl⟩
  have HI : Hid (∀ (E C S : List α) (ia ib : Int) (wx : World), ia = (E.length : Nat) → ib = ((E.length + C.length : Nat) : Int) → (E ++ C ++ S).length = z → C.Pairwise J → SWK enc 3 w0 blk off (E ++ C ++ S).toArray wx → Calls Tryz.prog 72 #[.slice (some ⟨blk, off, none⟩) z cap, .int .i64 ia, .int .i64 ib, .func (.func g) #[] cb] wx fun e w' => e = .returned (.tuple #[]) ∧ ∃ Z, Z.Perm C ∧ Z.Pairwise T ∧ SWK enc 3 w0 blk off (E ++ Z ++ S).toArray w') := by
    intro E C S ia ib wx e1 e2 hl hC hW
    have := insertion_any enc cf T J tr hJ g cb blk off cap d0 w0 eg hcmp R hsz E C S ia ib wx e1 e2 (by rw [hz]; exact hl) hC hW
    rwa [hz] at this
  have HS : Hid (∀ (E X Y S : List α) (ia im ib : Int) (wx : World), 0 < X.length → 0 < Y.length → Mg (ltOf cf) T X Y → ia = (E.length : Nat) → im = ((E.length + X.length : Nat) : Int) → ib = ((E.length + X.length + Y.length : Nat) : Int) → (E ++ X ++ Y ++ S).length = z → SWK enc 3 w0 blk off (E ++ X ++ Y ++ S).toArray wx → Calls Tryz.prog 95 #[.slice (some ⟨blk, off, none⟩) z cap, .int .i64 ia, .int .i64 im, .int .i64 ib, .func (.func g) #[] cb] wx fun e w' => e = .returned (.tuple #[]) ∧ ∃ Z, MgO T X Y Z ∧ SWK enc 3 w0 blk off (E ++ Z ++ S).toArray w') := by
    intro E X Y S ia im ib wx h1 h2 M e1 e2 e3 hl hW
    have := sym_any kt enc cf T tr g cb blk off cap d0 w0 eg (hcmp w0) R hsz _ E X Y S (Nat.le_refl _) h1 h2 M ia im ib wx e1 e2 e3 (by rw [hz]; exact hl) hW
    rwa [hz] at this
  have HJ : Hid (Jn (ltOf cf) T J) := hJ
  have HD : Hid (D0.length = z ∧ D0.Pairwise J) := ⟨by rw [hl, hz], hD⟩
  have S0 : Aside (SWK enc 3 w0 blk off D0.toArray w) := hW
  have hz1 : (z : Int) ≤ 4398046511104 := by omega
  rw [hz]
  clear hcmp R hsz hl hD hW hz hJ
  go_enter Tryz.func71, Tryz.ntmps71
  go_upto_block 0 with fail
  go_cut [7] (fun s7 wx => ∃ (a : Nat) (E Q : List α), s7 = .int .i64 a ∧ Hid (E.length = a ∧ (E ++ Q).length = z ∧ Q.length ≤ 20 ∧ Way1 T J 20 D0 E Q) ∧ Aside (SWK enc 3 w0 blk off (E ++ Q).toArray wx))
  case first =>
    go_wp2_with fail
    go_loopw [7, 8] (fun s7 s8 wr => ∃ (a b : Nat) (E Q : List α), s7 = .int .i64 a ∧ s8 = .int .i64 b ∧ b ≤ z + 20 ∧ Hid (a + 20 = b ∧ E.length = a ∧ (E ++ Q).length = z ∧ Way1 T J 20 D0 E Q) ∧ Aside (SWK enc 3 w0 blk off (E ++ Q).toArray wr)) (fun _ s8 _ => z + 40 - (intOf s8).toNat)
    case atStart => exact ⟨0, 20, [], D0, rfl, rfl, by omega, ⟨rfl, rfl, by simpa using HD.out.1, ⟨Pre.nil, HD.out.2, by simp, by simp⟩⟩, S0⟩
    case round =>
      obtain ⟨a, b, E, Q, rfl, rfl, hbz, HK, S1⟩ := hrel
      by_cases hb : b ≤ z
      · have hb' : (b : Int) ≤ (z : Int) := by omega
        obtain ⟨k1, k2, k3, k4⟩ := HK.out
        have hQl : 20 ≤ Q.length := by simp at k3; omega
        have HCC : Hid (Calls Tryz.prog 72 #[.slice (some ⟨blk, off, none⟩) z cap, .int .i64 (a : Int), .int .i64 (b : Int), .func (.func g) #[] cb] wr fun e w' => e = .returned (.tuple #[]) ∧ ∃ Z, Z.Perm (Q.take 20) ∧ Z.Pairwise T ∧ SWK enc 3 w0 blk off (E ++ Z ++ Q.drop 20).toArray w') := HI.out E (Q.take 20) (Q.drop 20) _ _ wr (by omega) (by rw [List.length_take]; omega) (by rw [List.append_assoc, List.take_append_drop]; exact k3) (k4.rest.sublist (List.take_sublist _ _)) (by rw [List.append_assoc, List.take_append_drop]; exact S1.out)
        have HQ : Hid (20 ≤ Q.length) := hQl
        clear k1 k2 k3 k4 hQl
        go_wp2_with fail
        refine HCC.out.mono ?_
        rintro e w1 ⟨rfl, Z, z1, z2, hS⟩
        have HN : Hid (E ++ Z ++ Q.drop 20 = E ++ Z ++ Q.drop 20 ∧ (E ++ Z).length = b ∧ (E ++ Z ++ Q.drop 20).length = z ∧ Way1 T J 20 D0 (E ++ Z) (Q.drop 20)) := by
          obtain ⟨k1, k2, k3, k4⟩ := HK.out
          have hq := HQ.out
          have lz : Z.length = 20 := by rw [z1.length_eq, List.length_take]; omega
          refine ⟨rfl, by rw [List.length_append]; omega, ?_, ?_⟩
          · rw [← k3]; simp; omega
          · exact Way1.step (by rw [List.take_append_drop]; exact k4) (by rw [List.length_take]; omega) z1 z2
        have HS1 : Aside (SWK enc 3 w0 blk off (E ++ Z ++ Q.drop 20).toArray w1) := hS
        clear z1 z2 hS
        go_wp2_with fail
        exact ⟨⟨b, b + 20, E ++ Z, Q.drop 20, rfl, rfl, by omega, ⟨rfl, HN.out.2.1, HN.out.2.2.1, HN.out.2.2.2⟩, HS1⟩, by simp [intOf]; omega⟩
      · have hb' : ¬ (b : Int) ≤ (z : Int) := by omega
        go_wp2_with fail
        go_meet
        case rel => exact ⟨a, E, Q, rfl, ⟨HK.out.2.1, HK.out.2.2.1, by have := HK.out; have h3 := HK.out.2.2.1; simp at h3; omega, HK.out.2.2.2⟩, S1⟩
  case rest =>
  obtain ⟨a, E, Q, rfl, HK, S1⟩ := hcut
  have HCC : Hid (Calls Tryz.prog 72 #[.slice (some ⟨blk, off, none⟩) z cap, .int .i64 (a : Int), .int .i64 (z : Int), .func (.func g) #[] cb] wc fun e w' => e = .returned (.tuple #[]) ∧ ∃ Z, Z.Perm Q ∧ Z.Pairwise T ∧ SWK enc 3 w0 blk off (E ++ Z ++ []).toArray w') := HI.out E Q [] _ _ wc (by have := HK.out.1; omega) (by have := HK.out.1; have h2 := HK.out.2.1; simp at h2; omega) (by rw [List.append_nil]; exact HK.out.2.1) HK.out.2.2.2.rest (by rw [List.append_nil]; exact S1.out)
  clear S1 S0
  go_wp2_with fail
  refine HCC.out.mono ?_
  rintro e w1 ⟨rfl, Z, z1, z2, hS⟩
  have HC0 : Hid ((E ++ Z).length = z ∧ Ch T J 20 (E ++ Z) ∧ (E ++ Z).Perm D0) := by
    obtain ⟨k1, k2, k3, k4⟩ := HK.out
    have := k4.last k3 z1 z2
    exact ⟨by rw [← k2, List.length_append, List.length_append, z1.length_eq], this.1, this.2⟩
  have S2 : Aside (SWK enc 3 w0 blk off (E ++ Z).toArray w1) := by show SWK _ _ _ _ _ _ _; rw [List.append_nil] at hS; exact hS
  clear hS z1 z2 HK HCC
  generalize E ++ Z = D1 at *
  go_wp2_with fail
  go_loopw [6] (fun s6 wr => ∃ (bs : Nat) (D : List α), s6 = .int .i64 bs ∧ 0 < bs ∧ bs ≤ 2 * z + 20 ∧ Hid (D.length = z ∧ Ch T J bs D ∧ D.Perm D0) ∧ Aside (SWK enc 3 w0 blk off D.toArray wr)) (fun s6 _ => 2 * z + 40 - (intOf s6).toNat)
  case atStart => exact ⟨20, D1, rfl, by omega, by omega, HC0, S2⟩
  case round =>
    clear S2 HC0
    generalize wr = wo at *
    obtain ⟨bs, D, rfl, hbs0, hbsz, HK, S1⟩ := hrel
    by_cases hlt : bs < z
    · have hlt' : (bs : Int) < (z : Int) := by omega
      obtain ⟨b2, hb2⟩ : ∃ b2, 2 * bs = b2 := ⟨_, rfl⟩
      have hb2' : 2 * (bs : Int) = (b2 : Int) := by omega
      have hb2'' : (bs : Int) * 2 = (b2 : Int) := by omega
      have hwb : IntKind.i64.wrap (b2 : Int) = (b2 : Int) := by rw [IntKind.wrap_i64]; omega
      have HB2 : Hid (2 * bs = b2) := hb2
      have hb2z : b2 ≤ 2 * z := by omega
      clear hb2
      go_upto_block 4 with fail
      go_cut [7] (fun s7 wx => ∃ (a : Nat) (E Q : List α), s7 = .int .i64 a ∧ a ≤ z ∧ Hid (E.length = a ∧ (E ++ Q).length = z ∧ Q.length < 2 * bs ∧ Way T J bs (2 * bs) D0 E Q) ∧ Aside (SWK enc 3 w0 blk off (E ++ Q).toArray wx))
      case first =>
        go_wp2_with fail
        go_loopw [7, 8] (fun s7 s8 wr => ∃ (a b : Nat) (E Q : List α), s7 = .int .i64 a ∧ s8 = .int .i64 b ∧ a ≤ z ∧ b ≤ z + b2 ∧ Hid (a + b2 = b ∧ E.length = a ∧ (E ++ Q).length = z ∧ Way T J bs (2 * bs) D0 E Q) ∧ Aside (SWK enc 3 w0 blk off (E ++ Q).toArray wr)) (fun _ s8 _ => z + b2 + b2 - (intOf s8).toNat)
        case atStart => exact ⟨0, b2, [], D, rfl, rfl, by omega, by omega, ⟨by omega, rfl, by simpa using HK.out.1, ⟨Pre.nil, HK.out.2.1, by simp, by simpa using HK.out.2.2⟩⟩, S1⟩
        case round =>
          clear S1
          obtain ⟨a, b, E, Q, rfl, rfl, haz, hbz, HL, S3⟩ := hrel
          by_cases hb : b ≤ z
          · have hb' : (b : Int) ≤ (z : Int) := by omega
            obtain ⟨k1, k2, k3, k4⟩ := HL.out
            obtain ⟨c, d, r, rfl, hc, hd, hp, hp', hj, hj', hr⟩ := k4.rest.two hbs0 (by have := HB2.out; simp at k3; omega)
            have hwa : IntKind.i64.wrap ((a : Int) + (bs : Int)) = (a : Int) + (bs : Int) := by rw [IntKind.wrap_i64]; omega
            have HCC : Hid (Calls Tryz.prog 95 #[.slice (some ⟨blk, off, none⟩) z cap, .int .i64 (a : Int), .int .i64 ((a : Int) + (bs : Int)), .int .i64 (b : Int), .func (.func g) #[] cb] wr fun e w' => e = .returned (.tuple #[]) ∧ ∃ Z, MgO T c d Z ∧ SWK enc 3 w0 blk off (E ++ Z ++ r).toArray w') := HS.out E c d r _ _ _ wr (by omega) (by omega) (HJ.out.mg hp hp' hj) (by omega) (by omega) (by have := HB2.out; omega) (by rw [← k3]; simp) (by have := S3.out; rw [show E ++ c ++ d ++ r = E ++ (c ++ d ++ r) by simp]; exact this)
            have HW : Hid (c.length = bs ∧ d.length = bs ∧ (∀ x ∈ c ++ d, ∀ y ∈ r, J x y) ∧ Ch T J bs r) := ⟨hc, hd, hj', hr⟩
            clear k1 k2 k3 k4 hc hd hp hp' hj hj' hr S3
            go_wp2_with fail
            refine HCC.out.mono ?_
            rintro e w2 ⟨rfl, Z2, hZ2, hS⟩
            have HN : Hid ((E ++ Z2).length = b ∧ (E ++ Z2 ++ r).length = z ∧ Way T J bs (2 * bs) D0 (E ++ Z2) r) := by
              obtain ⟨k1, k2, k3, k4⟩ := HL.out
              obtain ⟨hc, hd, hj', hr⟩ := HW.out
              have lz : Z2.length = 2 * bs := by rw [hZ2.1.length_eq, List.length_append]; omega
              have h2 := HB2.out
              exact ⟨by rw [List.length_append]; omega, by rw [← k3]; simp; omega, k4.merge hc hd hj' hr hZ2⟩
            have HS1 : Aside (SWK enc 3 w0 blk off (E ++ Z2 ++ r).toArray w2) := hS
            clear hZ2 hS HCC
            go_wp2_with fail
            exact ⟨⟨b, b + b2, E ++ Z2, r, rfl, by congr 1, hb, by omega, ⟨rfl, HN.out.1, HN.out.2.1, HN.out.2.2⟩, HS1⟩, by simp [intOf]; omega⟩
          · have hb' : ¬ (b : Int) ≤ (z : Int) := by omega
            go_wp2_with fail
            go_meet
            case rel => exact ⟨a, E, Q, rfl, haz, ⟨HL.out.2.1, HL.out.2.2.1, by have h1 := HL.out.1; have h2 := HL.out.2.1; have h3 := HL.out.2.2.1; have h4 := HB2.out; simp at h3; omega, HL.out.2.2.2⟩, S3⟩
      case rest =>
      obtain ⟨a, E, Q, rfl, haz, HL, S3⟩ := hcut
      clear S1
      have hwa : IntKind.i64.wrap ((a : Int) + (bs : Int)) = (a : Int) + (bs : Int) := by rw [IntKind.wrap_i64]; omega
      by_cases hm : a + bs < z
      · have hm' : (a : Int) + (bs : Int) < (z : Int) := by omega
        obtain ⟨k1, k2, k3, k4⟩ := HL.out
        obtain ⟨c, r, rfl, hc, hp, hj, hr⟩ := k4.rest.one (by simp at k2; omega)
        have hrl : r.length ≤ bs := by simp at k3; omega
        have hrp := hr.small hrl
        have HCC : Hid (Calls Tryz.prog 95 #[.slice (some ⟨blk, off, none⟩) z cap, .int .i64 (a : Int), .int .i64 ((a : Int) + (bs : Int)), .int .i64 (z : Int), .func (.func g) #[] cb] wc fun e w' => e = .returned (.tuple #[]) ∧ ∃ Z, MgO T c r Z ∧ SWK enc 3 w0 blk off (E ++ Z ++ []).toArray w') := HS.out E c r [] _ _ _ wc (by omega) (by simp at k2; omega) (HJ.out.mg hp hrp hj) (by omega) (by omega) (by simp at k2; omega) (by rw [← k2]; simp) (by have := S3.out; rw [show E ++ c ++ r ++ [] = E ++ (c ++ r) by simp]; exact this)
        have HW : Hid (c.length = bs ∧ r.length ≤ bs) := ⟨hc, hrl⟩
        clear k1 k2 k3 k4 hc hp hj hr hrl hrp S3
        go_wp2_with fail
        refine HCC.out.mono ?_
        rintro e w2 ⟨rfl, Z2, hZ2, hS⟩
        have HN : Hid ((E ++ Z2).length = z ∧ Ch T J b2 (E ++ Z2) ∧ (E ++ Z2).Perm D0) := by
          obtain ⟨k1, k2, k3, k4⟩ := HL.out
          obtain ⟨hc, hr⟩ := HW.out
          have lz : Z2.length = c.length + r.length := by rw [hZ2.1.length_eq, List.length_append]
          have h2 := HB2.out
          have := k4.last (by omega) hZ2.1 hZ2.2
          rw [h2] at this
          exact ⟨by rw [← k2]; simp; omega, this.1, this.2⟩
        have HS1 : Aside (SWK enc 3 w0 blk off (E ++ Z2).toArray w2) := by show SWK _ _ _ _ _ _ _; rw [List.append_nil] at hS; exact hS
        clear hZ2 hS HCC
        go_wp2_with fail
        exact ⟨⟨b2, E ++ Z2, by first | rfl | (congr 1), by omega, by omega, HN, HS1⟩, by simp [intOf]; omega⟩
      · have hm' : ¬ (a : Int) + (bs : Int) < (z : Int) := by omega
        have HN : Hid ((E ++ Q).length = z ∧ Ch T J b2 (E ++ Q) ∧ (E ++ Q).Perm D0) := by
          obtain ⟨k1, k2, k3, k4⟩ := HL.out
          have h2 := HB2.out
          have := k4.last (Z := Q) (by omega) (List.Perm.refl _) (k4.rest.small (by simp at k2; omega))
          rw [h2] at this
          exact ⟨k2, this.1, this.2⟩
        go_wp2_with fail
        exact ⟨⟨b2, E ++ Q, by first | rfl | (congr 1), by omega, by omega, HN, S3⟩, by simp [intOf]; omega⟩
    · have hlt' : ¬ (bs : Int) < (z : Int) := by omega
      have HF : Hid (D.Perm D0 ∧ D.Pairwise T) := ⟨HK.out.2.2, HK.out.2.1.small (by rw [HK.out.1]; omega)⟩
      go_wp2_with fail
      go_end0
      exact ⟨rfl, D, HF.out.1, HF.out.2, S1.out⟩
end Go.Proofs.YtcekgefkimbfaaaGreatDoor.ps
