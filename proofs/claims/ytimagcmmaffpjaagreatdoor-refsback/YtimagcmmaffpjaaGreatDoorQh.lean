/- A node, made anew with its refs changed. Conditions: what the functions for a ref and for a box answer; no list of children has more than 200. -/
import Derived.Test.YtimagcmmaffpjaaGreatDoorQf
namespace Go.Proofs.YtimagcmmaffpjaaGreatDoor.fm
open Go.RowKit
set_option maxRecDepth 100000 in
set_option maxHeartbeats 8000000 in
theorem changed_de (f : Rf → Rf × Bool) (P : Rf → Prop) (bl ba bm bf bt : Nat) (w0 : World) (hr : ∀ r, P r → ∀ wx, Below w0.heap.size w0 wx → Calls Tryz.prog 37 #[RV r, ptr bl, ptr ba, ptr bm] wx fun e w' => e = .returned (.tuple #[RV (f r).1, .bool (f r).2]) ∧ Below wx.heap.size wx w') (hx : ∀ a b, P a → P b → ∀ wx, Below w0.heap.size w0 wx → Calls Tryz.prog 39 #[RV a, RV b, ptr bf, ptr bt] wx fun e w' => e = .returned (.tuple #[RV (f a).1, RV (f b).1, .bool ((f a).2 && (f b).2)]) ∧ Below wx.heap.size wx w') {Q : Nat → Prop} {v : Value} {t : T} (h : Nd w0 Q v t) : Fits P t → Bd 200 t → ∀ w, Below w0.heap.size w0 w →
    Calls Tryz.prog 13 #[v, .agg #[fv 37 #[ptr bl, ptr ba, ptr bm], fv 39 #[ptr bf, ptr bt]]] w fun e w' => ∃ v', e = .returned v' ∧ Nd w' (Own w w') v' (chg (Cw f) t) ∧ Below w.heap.size w w' := by
  induction h with
  | @mk k n s r t p m c us ts hk hl hs ih =>
  intro hF hB w hb0
  have hm : m = ts.length := by rw [hk.1, hl]
  have hB1 : ts.length ≤ 200 := by cases hB with | mk h1 h2 => exact h1
  have hB2 : ∀ (i : Nat) u, ts[i]? = some u → Bd 200 u := by cases hB with | mk h1 h2 => exact h2
  have HF5 : Hid (k = 5 → P r) := by cases hF with | mk h1 h2 h3 => exact h1
  have HF6 : Hid (k = 6 → P r ∧ P t) := by cases hF with | mk h1 h2 h3 => exact h2
  have hF3 : ∀ (i : Nat) u, ts[i]? = some u → Fits P u := by cases hF with | mk h1 h2 h3 => exact h3
  have HR : Hid (∀ r, P r → ∀ wx, Below w0.heap.size w0 wx → Calls Tryz.prog 37 #[RV r, ptr bl, ptr ba, ptr bm] wx fun e w' => e = .returned (.tuple #[RV (f r).1, .bool (f r).2]) ∧ Below wx.heap.size wx w') := hr
  have HX : Hid (∀ a b, P a → P b → ∀ wx, Below w0.heap.size w0 wx → Calls Tryz.prog 39 #[RV a, RV b, ptr bf, ptr bt] wx fun e w' => e = .returned (.tuple #[RV (f a).1, RV (f b).1, .bool ((f a).2 && (f b).2)]) ∧ Below wx.heap.size wx w') := hx
  have HK : Hid (Kids w0 Q p m c us) := hk
  have HL : Hid (us.length = ts.length) := hl
  have HS : Hid (∀ (i : Nat) u t', us[i]? = some u → ts[i]? = some t' → Nd w0 Q u t') := hs
  have HI : Hid (∀ (i : Nat) u t', us[i]? = some u → ts[i]? = some t' → Fits P t' → Bd 200 t' → ∀ w, Below w0.heap.size w0 w → Calls Tryz.prog 13 #[u, .agg #[fv 37 #[ptr bl, ptr ba, ptr bm], fv 39 #[ptr bf, ptr bt]]] w fun e w' => ∃ v', e = .returned v' ∧ Nd w' (Own w w') v' (chg (Cw f) t') ∧ Below w.heap.size w w') := ih
  have HB2 : Hid (∀ (i : Nat) u, ts[i]? = some u → Bd 200 u) := hB2
  have HF3 : Hid (∀ (i : Nat) u, ts[i]? = some u → Fits P u) := hF3
  have HM : Hid (m = ts.length) := hm
  have HB0 : Hid (Below w0.heap.size w0 w) := hb0
  have hB3 : m ≤ 200 := by omega
  clear hr hx hk hl hs ih hF hB hm hB1 hB2 hF3 hb0
  have HE : Hid (chg (Cw f) (.nd k n s r t ts) = if (stp f k r t).2 = true then .nd k n s (stp f k r t).1.1 (stp f k r t).1.2 (chgL (Cw f) ts) else badN) := by
    unfold Hid
    rw [chg_eq, chgN_stp]
  rw [HE.out]
  clear HE
  obtain ⟨st, hst⟩ : ∃ st, stp f k r t = st := ⟨_, rfl⟩
  have HST : Hid (stp f k r t = st) := hst
  rw [hst]
  clear hst
  have hS := CB.start w (N12 k n s r t (.slice p m c)) (fv 37 #[ptr bl, ptr ba, ptr bm]) (fv 39 #[ptr bf, ptr bt])
  obtain ⟨⟨a0, a1, a2, a3, a4, a5, a6, a7, a8, a9, a10, a11⟩, af⟩ := cells12 hS.a
  go_enter Tryz.func13, Tryz.ntmps13
  go_upto_block 0 with fail
  generalize hw0 : ((w.alloc _).alloc _).alloc _ = wa at *
  clear hw0
  go_cut [5] (fun s5 wx => s5 = .bool st.2 ∧ CB w (N12 k n s st.1.1 st.1.2 (.slice p m c)) (fv 37 #[ptr bl, ptr ba, ptr bm]) (fv 39 #[ptr bf, ptr bt]) wx)
  case first =>
    obtain ⟨b0, b1⟩ := cells2 hS.b
    by_cases h5 : k = 5
    · have hP := HF5.out h5
      have e : st = (((f r).1, t), (f r).2) := by rw [← HST.out]; unfold stp; rw [if_pos h5]
      clear HST HF5 HF6 HI HS
      obtain ⟨q, hq⟩ : ∃ q, f r = q := ⟨_, rfl⟩
      have HC : Hid (∀ wx, Below w0.heap.size w0 wx → Calls Tryz.prog 37 #[RV r, ptr bl, ptr ba, ptr bm] wx fun e w' => e = .returned (.tuple #[RV q.1, .bool q.2]) ∧ Below wx.heap.size wx w') := by rw [← hq]; exact HR.out r hP
      rw [hq] at e
      have HE : Hid (st = ((q.1, t), q.2)) := e
      clear hq hP e
      subst h5
      go_wp2_with fail
      refine (HC.out _ (HB0.out.trans (hS.below.mono HB0.out.size))).mono ?_
      rintro e w1 ⟨rfl, hb1⟩
      have hS1 := hS.next hb1
      clear a0 a1 a2 a3 a4 a5 a6 a7 a8 a9 a10 a11 af b0 b1
      obtain ⟨⟨a0, a1, a2, a3, a4, a5, a6, a7, a8, a9, a10, a11⟩, af⟩ := cells12 hS1.a
      go_wp2_with fail
      go_meet
      case rel => rw [HE.out]; exact ⟨rfl, hS1.setRef q.1⟩
    · by_cases h6 : k = 6
      · obtain ⟨hP, hP2⟩ := HF6.out h6
        have e : st = (((f r).1, (f t).1), (f r).2 && (f t).2) := by rw [← HST.out]; unfold stp; rw [if_neg h5, if_pos h6]
        clear HST HF5 HF6 HI HS
        obtain ⟨q, hq⟩ : ∃ q, (f r).1 = q := ⟨_, rfl⟩
        obtain ⟨q2, hq2⟩ : ∃ q, (f t).1 = q := ⟨_, rfl⟩
        obtain ⟨x, hx⟩ : ∃ x, ((f r).2 && (f t).2) = x := ⟨_, rfl⟩
        have HC : Hid (∀ wx, Below w0.heap.size w0 wx → Calls Tryz.prog 39 #[RV r, RV t, ptr bf, ptr bt] wx fun e w' => e = .returned (.tuple #[RV q, RV q2, .bool x]) ∧ Below wx.heap.size wx w') := by rw [← hq, ← hq2, ← hx]; exact HX.out r t hP hP2
        rw [hq, hq2, hx] at e
        have HE : Hid (st = ((q, q2), x)) := e
        clear hq hq2 hx hP hP2 e h5
        subst h6
        go_wp2_with fail
        refine (HC.out _ (HB0.out.trans (hS.below.mono HB0.out.size))).mono ?_
        rintro e w1 ⟨rfl, hb1⟩
        have hS1 := hS.next hb1
        clear a0 a1 a2 a3 a4 a5 a6 a7 a8 a9 a10 a11 af b0 b1
        obtain ⟨⟨a0, a1, a2, a3, a4, a5, a6, a7, a8, a9, a10, a11⟩, af⟩ := cells12 hS1.a
        go_wp2_with fail
        go_meet
        case rel => rw [HE.out]; exact ⟨rfl, hS1.setBox q q2⟩
      · have e : st = ((r, t), true) := by rw [← HST.out]; unfold stp; rw [if_neg h5, if_neg h6]
        have HE : Hid (st = ((r, t), true)) := e
        clear HST HF5 HF6 HI HS e
        have g5 : (k == 5) = false := by simp [h5]
        have g6 : (k == 6) = false := by simp [h6]
        go_wp2_with fail
        go_meet
        case rel => rw [HE.out]; exact ⟨rfl, hS⟩
  case rest =>
  clear hS a0 a1 a2 a3 a4 a5 a6 a7 a8 a9 a10 a11 af HST HF5 HF6 HR HX
  obtain ⟨rfl, hS⟩ := hcut
  obtain ⟨⟨r1, t1⟩, ok⟩ := st
  simp only at hS ⊢
  obtain ⟨⟨a0, a1, a2, a3, a4, a5, a6, a7, a8, a9, a10, a11⟩, af⟩ := cells12 hS.a
  cases ok
  · obtain ⟨⟨z0, z1, z2, z3, z4, z5, z6, z7, z8, z9, z10, z11⟩, zf⟩ := cells12 hS.c
    have hc := hS.c
    have HS1 : Hid (CB w (N12 k n s r1 t1 (.slice p m c)) (fv 37 #[ptr bl, ptr ba, ptr bm]) (fv 39 #[ptr bf, ptr bt]) wc) := hS
    clear hS
    go_wp2_with fail
    refine fin12 hc (Q := bodyPost _ _ _ _ _) ?_
    clear z0 z1 z2 z3 z4 z5 z6 z7 z8 z9 z10 z11 zf a0 a1 a2 a3 a4 a5 a6 a7 a8 a9 a10 a11 af hc
    intro w2 hq2 hk2
    obtain ⟨⟨b0, b1, b2, b3, b4, b5, b6, b7, b8, b9, b10, b11⟩, bf'⟩ := cells12 hq2
    refine bodyPost_ret (v := NV 4 3 nul .z .z (.slice none 0 0)) (by simp [results, Tryz.results13, go_sem, b0, b1, b2, b3, b4, b5, b6, b7, b8, b9, b10, b11]) rfl ⟨_, rfl, ?_, ?_⟩
    · exact Nd.leaf
    · exact HS1.out.below.trans (hk2.toBelow HS1.out.below.size (fun n hn e => by omega))
  · have HSC : Hid (∀ wx, Below wc.heap.size wc wx → CB w (N12 k n s r1 t1 (.slice p m c)) (fv 37 #[ptr bl, ptr ba, ptr bm]) (fv 39 #[ptr bf, ptr bt]) wx) := fun wx hb => hS.next hb
    have hlt3 := hS.lt
    go_wp2_with fail
    clear hS a0 a1 a2 a3 a4 a5 a6 a7 a8 a9 a10 a11 af
    go_loopw [6, 8, 43] (fun sv _ i wr => ∃ (j : Nat) (us' : List Value) (p6 : Option Addr) (m6 c6 : Nat), i = .int .i64 j ∧ sv = .slice p6 m6 c6 ∧ j ≤ m ∧ us'.length = j ∧ GV wc wr (.slice p6 m6 c6) us' ((chgL (Cw f) ts).take j) ∧ Below wc.heap.size wc wr) (fun _ _ i _ => m - (intOf i).toNat)
    case atStart => exact ⟨0, [], none, 0, 0, rfl, rfl, Nat.zero_le _, rfl, .inl ⟨rfl, by simp, rfl⟩, Below.refl _ _⟩
    case round =>
      obtain ⟨j, us', p6, m6, c6, rfl, rfl, hj, hlen, hG, hbw⟩ := hrel
      by_cases hlt : j < m
      · obtain ⟨g, o, u, tk, rfl, hg, hu, htk, hc⟩ := kid_at HK.out HL.out HS.out j hlt
        have hN := HS.out j u tk hu htk
        have hSr := HSC.out wr hbw
        have HC : Hid (∀ wx, Below w0.heap.size w0 wx → Calls Tryz.prog 13 #[u, .agg #[fv 37 #[ptr bl, ptr ba, ptr bm], fv 39 #[ptr bf, ptr bt]]] wx fun e w' => ∃ v', e = .returned v' ∧ Nd w' (Own wx w') v' (chg (Cw f) tk) ∧ Below wx.heap.size wx w') := HI.out j u tk hu htk (HF3.out j tk htk) (HB2.out j tk htk)
        have HTK : Hid ((chgL (Cw f) ts).take (j + 1) = (chgL (Cw f) ts).take j ++ [chg (Cw f) tk]) := by
          unfold Hid
          rw [List.take_add_one, chgL_at, htk]
          rfl
        have hbr : Below w0.heap.size w0 wr := HB0.out.trans (hSr.below.mono HB0.out.size)
        have e1 : ∀ jj x, u.cells.toList[jj]? = some x → wr.cell? ⟨g, o + j * 12 + jj, none⟩ = some x := fun jj x hx => by rw [hbr.cell (p := ⟨g, _, none⟩) hg]; exact hc jj x hx
        obtain ⟨tc, htc⟩ : ∃ tc, chg (Cw f) tk = tc := ⟨_, rfl⟩
        rw [htc] at HC HTK
        have HBR : Hid (Below w0.heap.size w0 wr) := hbr
        clear hc hu htk hbr htc HI HF3 HB2
        cases hN with
        | @mk k1 n1 s1 ra rb p1 m1 q1 us1 ts1 _ _ _ =>
        have hlt' : (j : Int) < (m : Int) := by omega
        have hj' : (0 : Int) ≤ (j : Int) := by omega
        have x0 := e1 0 _ rfl
        have x1 := e1 1 _ rfl
        have x2 := e1 2 _ rfl
        have x3 := e1 3 _ rfl
        have x4 := e1 4 _ rfl
        have x5 := e1 5 _ rfl
        have x6 := e1 6 _ rfl
        have x7 := e1 7 _ rfl
        have x8 := e1 8 _ rfl
        have x9 := e1 9 _ rfl
        have x10 := e1 10 _ rfl
        have x11 := e1 11 _ rfl
        simp only [Nat.add_zero] at x0
        have hbk : Below wr.heap.size wr (wr.alloc (.cells (N12 k1 n1 s1 ra rb (.slice p1 m1 q1)) 28)) := (Below.refl _ _).alloc (Nat.le_refl _) _
        have hSk := hSr.next hbk
        have hGk := hG.below hbk
        obtain ⟨b0, b1⟩ := cells2 hSk.b
        clear e1 hSr
        go_wp2_with fail
        refine (HC.out _ (HBR.out.trans (hbk.mono HBR.out.size))).mono ?_
        rintro e w3 ⟨v', rfl, hN3, hb3⟩
        have hG3 := hGk.below hb3
        cases hN3 with
        | @mk a2 n2 s2 r2 t2 p2 m2 e2 us2 ts2 hk' hl' hs' =>
        have hN3 := Nd.mk (k := a2) (n := n2) (s := s2) (r := r2) (t := t2) hk' hl' hs'
        clear hk' hl' hs'
        have hba : Below w3.heap.size w3 (w3.alloc (.cells (N12 a2 n2 s2 r2 t2 (.slice p2 m2 e2)) 28)) := (Below.refl _ _).alloc (Nat.le_refl _) _
        have hG4 := hG3.below hba
        have hb5 := blk_new w3 (.cells (N12 a2 n2 s2 r2 t2 (.slice p2 m2 e2)) 28)
        have hN4 : Nd (w3.alloc (.cells (N12 a2 n2 s2 r2 t2 (.slice p2 m2 e2)) 28)) (Own (wr.alloc (.cells (N12 k1 n1 s1 ra rb (.slice p1 m1 q1)) 28)) (w3.alloc (.cells (N12 a2 n2 s2 r2 t2 (.slice p2 m2 e2)) 28))) (NV a2 n2 s2 r2 t2 (.slice p2 m2 e2)) (.nd a2 n2 s2 r2 t2 ts2) :=
          hN3.mono (fun b hb => hba.block b hb.2) (fun b hb => ⟨hb.1, Nat.lt_of_lt_of_le hb.2 hba.size⟩)
        obtain ⟨sv', w5, hr, hG5, hk5⟩ := appV hGk hG4 hN4 (Nat.le_trans hbw.size hbk.size) (Nat.le_trans hb3.size hba.size) hb5 (by omega)
        have hbx : Below wc.heap.size wc w5 := ((((hbw.trans (hbk.mono hbw.size)).trans (hb3.mono (Nat.le_trans hbw.size hbk.size))).trans (hba.mono (Nat.le_trans (Nat.le_trans hbw.size hbk.size) hb3.size))).trans (hk5.toBelow (Nat.le_trans (Nat.le_trans (Nat.le_trans hbw.size hbk.size) hb3.size) hba.size) (fun n hn e => by omega)))
        obtain ⟨p7, m7, c7, rfl⟩ := hG5.slice
        have HR5 : Hid ((Builtin.append_ #[26, 26] 26 #[.slice p6 m6 c6, .slice (some ⟨w3.heap.size, 0, none⟩) 1 1]).run Tryz.prog (w3.alloc (.cells (N12 a2 n2 s2 r2 t2 (.slice p2 m2 e2)) 28)) = .ok (.slice p7 m7 c7) w5) := hr
        have HG5 : Hid (GV wc w5 (.slice p7 m7 c7) (us' ++ [NV a2 n2 s2 r2 t2 (.slice p2 m2 e2)]) ((chgL (Cw f) ts).take (j + 1))) := by
          unfold Hid
          rw [HTK.out]
          exact hG5
        clear hr x0 x1 x2 x3 x4 x5 x6 x7 x8 x9 x10 x11 b0 b1 hG5 hk5 hN3 hN4 hG4 hb5 hba hG3 hGk hSk hbk hG hb3
        go_wp2_with (first | (at_builtin; refine wpList_append_eq rfl _ _ 26 rfl _ _ _ _ rfl rfl HR5.out ?_))
        exact ⟨⟨j + 1, us' ++ [NV a2 n2 s2 r2 t2 (.slice p2 m2 e2)], p7, m7, c7, by simp, rfl, hlt, by simp [hlen], HG5.out, hbx⟩, by simp [intOf]; omega⟩
      · have hjm : j = m := by omega
        subst hjm
        have HG : Hid (GV wc wr (.slice p6 m6 c6) us' (chgL (Cw f) ts)) := by
          have h1 := hG
          rw [List.take_of_length_le (by rw [chgL_len, ← HM.out]; exact Nat.le_refl _)] at h1
          exact h1
        have hSr := HSC.out wr hbw
        obtain ⟨⟨a0, a1, a2, a3, a4, a5, a6, a7, a8, a9, a10, a11⟩, af⟩ := cells12 hSr.a
        obtain ⟨⟨z0, z1, z2, z3, z4, z5, z6, z7, z8, z9, z10, z11⟩, zf⟩ := cells12 hSr.c
        have hks := kpset wr w.heap.size 11 (.slice p6 m6 c6)
        have hc2 := hks.blk hSr.c (by omega)
        have HSR : Hid (CB w (N12 k n s r1 t1 (.slice p j c)) (fv 37 #[ptr bl, ptr ba, ptr bm]) (fv 39 #[ptr bf, ptr bt]) wr) := hSr
        clear hSr hG HI HF3 HB2 HS HK HL
        go_wp2_with fail
        refine fin12 hc2 (Q := bodyPost _ _ _ _ _) ?_
        clear z0 z1 z2 z3 z4 z5 z6 z7 z8 z9 z10 z11 zf a0 a1 a2 a3 a4 a5 a6 a7 a8 a9 a10 a11 af hc2
        intro w2 hq2 hk2
        obtain ⟨⟨b0, b1, b2, b3, b4, b5, b6, b7, b8, b9, b10, b11⟩, bf'⟩ := cells12 hq2
        have hbs := hbw.size
        have hkk : ∀ b, wc.heap.size ≤ b → b < wr.heap.size → w2.heap[b]? = wr.heap[b]? := fun b h1 h2 => by
          rw [hk2.block b (by have := hks.size; omega) (by omega), hks.block b h2 (by omega)]
        refine bodyPost_ret (v := NV k n s r1 t1 (.slice p6 m6 c6)) (by simp [results, Tryz.results13, go_sem, b0, b1, b2, b3, b4, b5, b6, b7, b8, b9, b10, b11]) rfl ⟨_, rfl, ?_, ?_⟩
        · refine (HG.out.node (w0 := wc) (Nat.le_refl _)).mono (fun b hb => hkk b hb.1 hb.2) (fun b hb => ⟨by have := hb.1; omega, Nat.lt_of_lt_of_le hb.2 (Nat.le_trans hks.size hk2.size)⟩)
        · exact (HSR.out.below.trans (hks.toBelow HSR.out.below.size (fun n hn e => by omega))).trans (hk2.toBelow (Nat.le_trans HSR.out.below.size hks.size) (fun n hn e => by omega))
end Go.Proofs.YtimagcmmaffpjaaGreatDoor.fm
