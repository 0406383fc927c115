
/- The document's wants: their faults, and how many a row meets. Conditions: as each theorem says. -/
import Derived.Test.YtjbdpcnebilmbaaGreatDoorSx
import Derived.Test.YtjbdpcnebilmbaaGreatDoorRt
import Derived.Test.YtjbdpcnebilmbaaGreatDoorRb
namespace Go.Proofs.YtjbdpcnebilmbaaGreatDoor.so
open Go.RowKit Go.Sort Go.Shelf
theorem rtwo_any (x : Vl) (o : Int) (y : Vl) (h1 : 1 ≤ o) (h6 : o ≤ 6) (hx : x.ok = true) (hy : y.ok = true) (w : World) :
    Calls Tryz.prog 13 #[.int .i64 o, V x.k x.n x.s, V y.k y.n y.s] w fun e w' => e = .returned (V (twoV x o y).k (twoV x o y).n (twoV x o y).s) ∧ Below w.heap.size w w' := by
  unfold twoV
  by_cases h : x.k = 4
  · rw [if_pos h]
    have := rtwo_a o h1 (by omega) x.n x.s y.k y.n y.s w
    rw [← h] at this
    exact this
  · rw [if_neg h]
    have h4 : (x.k == 4) = false := beq_eq_false_iff_ne.2 h
    by_cases h' : y.k = 4
    · rw [if_pos h']
      have := rtwo_b o h1 (by omega) x.k x.n x.s y.n y.s h4 w
      rw [← h'] at this
      exact this
    · rw [if_neg h']
      have h4' : (y.k == 4) = false := beq_eq_false_iff_ne.2 h'
      unfold says Vl.beside
      have ho : o = 1 ∨ o = 2 ∨ o = 3 ∨ o = 4 ∨ o = 5 ∨ o = 6 := by omega
      rcases ho with rfl | rfl | rfl | rfl | rfl | rfl
      · rw [if_pos rfl]; exact rtwo_1 _ _ _ _ _ _ w h4 h4' hx hy
      · rw [if_neg (by decide), if_pos rfl]; exact rtwo_2 _ _ _ _ _ _ w h4 h4' hx hy
      · rw [if_neg (by decide), if_neg (by decide), if_pos rfl]; exact rtwo_3 _ _ _ _ _ _ w h4 h4' hx hy
      · rw [if_neg (by decide), if_neg (by decide), if_neg (by decide), if_pos rfl]; exact rtwo_4 _ _ _ _ _ _ w h4 h4' hx hy
      · rw [if_neg (by decide), if_neg (by decide), if_neg (by decide), if_neg (by decide), if_pos rfl]; exact rtwo_5 _ _ _ _ _ _ w h4 h4' hx hy
      · rw [if_neg (by decide), if_neg (by decide), if_neg (by decide), if_neg (by decide), if_neg (by decide)]; exact rtwo_6 _ _ _ _ _ _ w h4 h4' hx hy
theorem cells3w {w : World} {b : Nat} {a0 a1 a2 : Value} {t : TypeId} (h : w.heap[b]? = some (.cells #[a0, a1, a2] t (0, 0))) : w.cell? ⟨b, 0, none⟩ = some a0 ∧ w.cell? ⟨b, 1, none⟩ = some a1 ∧ w.cell? ⟨b, 2, none⟩ = some a2 := by simp [World.cell?, h]
theorem frz {w : World} {b : Nat} {cs : Array Value} {t : TypeId} (h : w.heap[b]? = some (.cells cs t (0, 0))) (o : Nat) : w.frozen? ⟨b, o, none⟩ = false := by
  unfold World.frozen?
  simp [h]
theorem fin3 {w : World} {b : Nat} {a0 a1 a2 u0 u1 u2 : Value} {t : TypeId} (h : w.heap[b]? = some (.cells #[a0, a1, a2] t (0, 0))) : (((w.setCell ⟨b, 0, none⟩ u0).setCell ⟨b, 1, none⟩ u1).setCell ⟨b, 2, none⟩ u2).heap[b]? = some (.cells #[u0, u1, u2] t (0, 0)) := by
  have h0 : (w.setCell ⟨b, 0, none⟩ u0).heap[b]? = some (.cells #[u0, a1, a2] t (0, 0)) := by rw [blk_set3 h]; rfl
  have h1 : ((w.setCell ⟨b, 0, none⟩ u0).setCell ⟨b, 1, none⟩ u1).heap[b]? = some (.cells #[u0, u1, a2] t (0, 0)) := by rw [blk_set3 h0]; rfl
  rw [blk_set3 h1]; rfl
theorem bw_set3 {w w3 : World} (h : Bw w w3) {u0 u1 u2 : Value} {b : Nat} (hb : w.heap.size ≤ b) : Bw w (((w3.setCell ⟨b, 0, none⟩ u0).setCell ⟨b, 1, none⟩ u1).setCell ⟨b, 2, none⟩ u2) := ((h.setCell hb _).setCell hb _).setCell hb _
/-- A want and a value of a row, opened. -/
abbrev MQ (w : World) (g o i gr u : Nat) (c t : Int) (y x : Vl) (wx : World) : Prop :=
  wx.cell? ⟨g, o + i * 5, none⟩ = some (.int .i64 c) ∧ wx.cell? ⟨g, o + i * 5 + 1, none⟩ = some (.int .i64 t) ∧ wx.cell? ⟨g, o + i * 5 + 2, none⟩ = some (.int .i64 y.k) ∧ wx.cell? ⟨g, o + i * 5 + 2 + 1, none⟩ = some (.int .i64 y.n) ∧ wx.cell? ⟨g, o + i * 5 + 2 + 2, none⟩ = some (.string y.s) ∧
  wx.cell? ⟨gr, u, none⟩ = some (.int .i64 x.k) ∧ wx.cell? ⟨gr, u + 1, none⟩ = some (.int .i64 x.n) ∧ wx.cell? ⟨gr, u + 2, none⟩ = some (.string x.s) ∧ Bw w wx
theorem mq_bw {w : World} {g o i gr u : Nat} {c t : Int} {y x : Vl} {wx : World} (h : MQ w g o i gr u c t y x wx) : Bw w wx := h.2.2.2.2.2.2.2.2
set_option maxRecDepth 100000 in
set_option maxHeartbeats 8000000 in
theorem rmeets_any (p : Option Addr) (l cp : Nat) (r : Nat → Vl) (p2 : Option Addr) (n c2 : Nat) (f : Nat → Wt) (w : World) (hR : VM w p l r) (hW : WM w p2 n f) (hn : n ≤ 12) (hr : ∀ i, i < l → (r i).ok = true) (hf : ∀ i, i < n → 0 ≤ (f i).c ∧ (f i).c < (l : Int) ∧ (f i).v.ok = true ∧ 1 ≤ (f i).o ∧ (f i).o ≤ 6) :
    Calls Tryz.prog 5 #[.slice p l cp, .slice p2 n c2] w fun e w' => e = .returned (.int .i64 (mets r f n : Nat)) ∧ Bw w w' := by
  have HR : Hid (VM w p l r) := hR
  have HW : Hid (WM w p2 n f) := hW
  have HO : Hid (∀ i, i < l → (r i).ok = true) := hr
  have HF : Hid (∀ i, i < n → 0 ≤ (f i).c ∧ (f i).c < (l : Int) ∧ (f i).v.ok = true ∧ 1 ≤ (f i).o ∧ (f i).o ≤ 6) := hf
  clear hR hW hr hf
  obtain ⟨A, hA⟩ : ∃ A, mets r f n = A := ⟨_, rfl⟩
  have HA : Hid (mets r f n = A) := hA
  rw [hA]
  clear hA
  go_enter Tryz.func5, Tryz.ntmps5
  go_wp2_with fail
  go_loopw [5, 6] (fun s5 s6 wr => ∃ j : Nat, s6 = .int .i64 j ∧ j ≤ n ∧ s5 = .int .i64 (mets r f j : Nat) ∧ Hid (Bw w wr)) (fun _ s6 _ => n - (intOf s6).toNat)
  case atStart => exact ⟨0, rfl, Nat.zero_le _, rfl, Below.refl _ _⟩
  case round =>
    obtain ⟨j, rfl, hj, rfl, HB⟩ := hrel
    by_cases hlt : j < n
    · have hlt' : (j : Int) < (n : Int) := by omega
      have hj0 : (0 : Int) ≤ (j : Int) := by omega
      obtain ⟨f0, f1, f2, f3, f4⟩ := HF.out j hlt
      obtain ⟨u, hu⟩ : ∃ u : Nat, (f j).c = (u : Int) := ⟨(f j).c.toNat, by omega⟩
      have hul : u < l := by omega
      have HWM : Hid (∃ g o, p2 = some ⟨g, o, none⟩ ∧ ∃ gr orr, p = some ⟨gr, orr, none⟩ ∧ ∀ wx, Bw w wx → MQ w g o j gr (orr + u * 3) (u : Int) (f j).o (f j).v (r u) wx) := by
        rcases HW.out with h | ⟨g, o, e1, hg, h3⟩
        · omega
        rcases HR.out with h | ⟨gr, orr, e2, hgr, h4⟩
        · omega
        refine ⟨g, o, e1, gr, orr, e2, fun wx hb => ?_⟩
        obtain ⟨a0, a1, a2, a3, a4⟩ := h3 j hlt
        obtain ⟨b0, b1, b2⟩ := h4 u hul
        rw [hu] at a0
        exact ⟨(hb.cell (p := ⟨g, _, none⟩) hg).trans a0, (hb.cell (p := ⟨g, _, none⟩) hg).trans a1, (hb.cell (p := ⟨g, _, none⟩) hg).trans a2, (hb.cell (p := ⟨g, _, none⟩) hg).trans a3, (hb.cell (p := ⟨g, _, none⟩) hg).trans a4, (hb.cell (p := ⟨gr, _, none⟩) hgr).trans b0, (hb.cell (p := ⟨gr, _, none⟩) hgr).trans b1, (hb.cell (p := ⟨gr, _, none⟩) hgr).trans b2, hb⟩
      obtain ⟨g, o, rfl, gr, orr, rfl, sof⟩ := HWM.out
      have HT := rtwo_any (r u) (f j).o (f j).v f3 f4 (HO.out u hul) f2
      have HN : Hid (mets r f (j + 1) = if ((twoV (r u) (f j).o (f j).v).k == 3 && (twoV (r u) (f j).o (f j).v).n == 1) = true then mets r f j + 1 else mets r f j) := by
        show _ = _
        rw [twoV_meet, mets, hu]
        rfl
      have hu0 : (0 : Int) ≤ (u : Int) := by omega
      have hul' : (u : Int) < (l : Int) := by omega
      generalize twoV (r u) (f j).o (f j).v = tv at *
      generalize r u = x at *
      generalize (f j).v = y at *
      generalize (f j).o = t at *
      obtain ⟨tk, tn, ts⟩ := tv
      obtain ⟨xk, xn, xs⟩ := x
      obtain ⟨yk, yn, ys⟩ := y
      dsimp only at HT HN
      obtain ⟨M, hM⟩ : ∃ M, mets r f j = M := ⟨_, rfl⟩
      have hM12 : M ≤ 12 := by have := mets_le r f j; omega
      rw [hM] at HN ⊢
      clear hM HWM hu f0 f1 f2
      have h0d := sof wr.drew (HB.out.drew)
      obtain ⟨y0, y1, y2, y3, y4, y5, y6, y7, -⟩ := sof wr HB.out
      go_upto_region 5 with fail
      go_cut [7] (fun s7 wx => ∃ b, s7 = .pointer (some ⟨b, 0, none⟩) ∧ Hid (wx.heap[b]? = some (.cells #[.int .i64 tk, .int .i64 tn, .string ts] 38 (0, 0))) ∧ Hid (Bw w wx))
      case first =>
        go_region_held3 (fun wx => MQ w g o j gr (orr + u * 3) (u : Int) t ⟨yk, yn, ys⟩ ⟨xk, xn, xs⟩ wx) (first | exact h0d | exact sof _ ((mq_bw (by assumption)).tr (by assumption)) | exact sof _ ((mq_bw (by assumption)).tr (Bw.al _ _)) | exact sof _ (((mq_bw h0d).tr (by assumption)).tr (Bw.al _ _)) | exact sof _ (bw_set3 (by assumption) HB.out.size)) (first | (go_at_call 13; refine (HT _).mono ?_; rintro e w3 ⟨rfl, q3⟩; (first | (have hz3 : w3.heap[wr.heap.size]? = some (.cells #[.int .i64 0, .int .i64 0, .string nul] 38 (0, 0)) := (q3.block wr.heap.size (by simp)).trans (heap_alloc_new wr.drew _); obtain ⟨z0, z1, z2⟩ := cells3w hz3; have zf := frz hz3; have hB3 : Bw w w3 := ((mq_bw h0d).tr (Bw.al _ _)).tr q3) | skip)))
        all_goals
          go_wp2_with fail
          go_meet
          case rel => first | exact ⟨_, rfl, heap_alloc_new _ _, ((mq_bw h0d).tr q3).tr (Bw.al _ _)⟩ | exact ⟨_, rfl, fin3 hz3, bw_set3 hB3 HB.out.size⟩
      case rest =>
        obtain ⟨b, rfl, HBK, HB2⟩ := hcut
        obtain ⟨w0, w1, w2⟩ := cells3w HBK.out
        apply_assumption
        clear h0d y0 y1 y2 y3 y4 y5 y6 y7 sof HT HB
        by_cases hk : tk = 3
        · subst hk
          by_cases h1 : tn = 1
          · subst h1
            have HN2 : Hid (mets r f (j + 1) = M + 1) := by rw [HN.out]; rfl
            go_wp2_with fail
            exact ⟨⟨j + 1, by simp, hlt, by rw [HN2.out]; simp, HB2⟩, by simp [intOf]; omega⟩
          · have h1' : (tn == 1) = false := beq_eq_false_iff_ne.2 h1
            have HN2 : Hid (mets r f (j + 1) = M) := by rw [HN.out, h1']; rfl
            go_wp2_with fail
            exact ⟨⟨j + 1, by simp, hlt, by rw [HN2.out], HB2⟩, by simp [intOf]; omega⟩
        · have hk' : (tk == 3) = false := beq_eq_false_iff_ne.2 hk
          have HN2 : Hid (mets r f (j + 1) = M) := by rw [HN.out, hk']; rfl
          go_wp2_with fail
          exact ⟨⟨j + 1, by simp, hlt, by rw [HN2.out], HB2⟩, by simp [intOf]; omega⟩
    · have hj2 : ¬ (j : Int) < (n : Int) := by omega
      have ej : j = n := by omega
      subst ej
      rw [HA.out]
      go_wp2_with fail
      go_ret
      exact ⟨rfl, HB.out⟩
end Go.Proofs.YtjbdpcnebilmbaaGreatDoor.so
