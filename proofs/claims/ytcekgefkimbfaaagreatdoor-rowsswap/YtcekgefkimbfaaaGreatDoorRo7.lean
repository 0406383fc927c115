/- The reference's One at a name that is called. Conditions: as each theorem says. -/
import Derived.Test.YtcekgefkimbfaaaGreatDoorRm2
import Derived.Deep.QuietTactic
import Derived.BigQuiet
namespace Go.Proofs.YtcekgefkimbfaaaGreatDoor.fm
open Go.RowKit
set_option maxRecDepth 100000 in
set_option maxHeartbeats 8000000 in
theorem rone_call_full (pb k d : Nat) (wr : Int) (s : ByteArray) (hs : s.size ≤ 200) (w : World) (h : PD w pb s k wr 0 d) (hk : k ≤ s.size) (t : Tk) (ht : tkR s k = t) (hc : t.kind = 1) (htz : t.t.size ≤ 200) (hg : true = (isNm t.t && decide (nx s t.e = 40))) (hd : d = 30) :
    Calls Tryz.prog 63 #[ptr pb] w (OutR w pb s d wr (.err t.a 4)) := by
  have hte : t.e ≤ s.size := ht ▸ (tk_spec s k hk).2.2
  have HT : Hid (∀ w, Calls Tryz.prog 45 #[.string s, .int .i64 k] w fun e w' => e = .returned (KV (tkR s k).kind ((tkR s k).a : Nat) ((tkR s k).e : Nat) (tkR s k).t) ∧ Below w.heap.size w w') := fun w => token_at s k w hs hk
  rw [ht] at HT
  clear ht
  have HHC : Hid (t.kind = 1) := hc
  clear hc
  obtain ⟨g, hgf⟩ : ∃ g : Bool, g = true := ⟨_, rfl⟩
  rw [← hgf] at hg
  have HGF : Hid (g = true) := hgf
  clear hgf
  go_enter Tryz.func63, Tryz.ntmps63
  go_upto_region 1 with fail
  have h0 : PD (w.alloc (.cells NZ 68)) pb s k wr 0 d := h.below ((Below.refl _ _).alloc (Nat.le_refl _) _)
  have hr : (w.alloc (.cells NZ 68)).heap[w.heap.size]? = some (.cells NZ 68 (0, 0)) := blk_new _ _
  have hK0 : Kp (· = pb) w (w.alloc (.cells NZ 68)) := (Kp.refl _ w).alloc _
  have hlt := h.lt
  have hrl : w.heap.size < (w.alloc (.cells NZ 68)).heap.size := by simp
  obtain ⟨rb, hrb⟩ : ∃ rb, w.heap.size = rb := ⟨_, rfl⟩
  rw [hrb] at hr hrl hlt ⊢
  have HRB : Hid (w.heap.size = rb) := hrb
  clear hrb
  generalize w.alloc (.cells NZ 68) = w0 at *
  obtain ⟨⟨c0, c1, c2, c3, c4⟩, f0, f1, f2, f3, f4⟩ := h0.cells
  have hrp : rb ≠ pb := by omega
  go_cut [3] (fun s3 wx => ∃ kb, s3 = ptr kb ∧ KS w0 t kb wx)
  case first =>
    have hlt0 := h0.lt
    have hne : w0.heap.size ≠ pb := by omega
    have hne' : pb ≠ w0.heap.size := by omega
    have KK : Hid (∀ wx, Below w0.heap.size w0 wx → wx.cell? ⟨pb, 0, none⟩ = some (.string s) ∧ wx.cell? ⟨pb, 1, none⟩ = some (.int .i64 k)) := fun wx hb => ⟨(hb.cell (p := ⟨pb, 0, none⟩) hlt0).trans c0, (hb.cell (p := ⟨pb, 1, none⟩) hlt0).trans c1⟩
    clear c0 c1 c2 c3 c4 f0 f1 f2 f3 f4
    go_region_held3 (fun wx => wx.cell? ⟨pb, 0, none⟩ = some (.string s) ∧ wx.cell? ⟨pb, 1, none⟩ = some (.int .i64 k)) (exact KK.out _ (by (repeat (first | exact Below.refl _ _ | assumption | (refine Below.setCell ?_ (by first | exact Nat.le_refl _ | omega) _) | (refine Below.alloc ?_ (by first | exact Nat.le_refl _ | exact hb'.size | omega | (simp <;> omega)) _) | (refine Below.drew ?_))))) ((go_at_call 45; refine (HT.out _).mono ?_; rintro e w1 ⟨rfl, hb⟩; have hb' : Below w0.heap.size w0 w1 := (by first | exact kb1 hb | exact kb2 hb); first | (have hz := kz_a hb; have hz4 := cells4f hz; obtain ⟨⟨z0, z1, z2, z3⟩, y0, y1, y2, y3⟩ := hz4) | skip))
    all_goals
      go_wp2_with fail
      go_meet
      case rel => first | exact ⟨_, rfl, ks3 hb⟩ | exact ks2 hb (Q := fun W => ∃ kb, _ = ptr kb ∧ KS w0 t kb W) (fun w2 h2 => ⟨_, rfl, h2⟩)
  case rest =>
  obtain ⟨kb, rfl, hS⟩ := hcut
  clear c0 c1 c2 c3 c4 f0 f1 f2 f3 f4 HT
  have hlo := hS.lo
  have hne : kb ≠ pb := by have := h0.lt; omega
  have hner : kb ≠ rb := by omega
  have hP : PD wc pb s k wr 0 d := h0.below hS.below
  obtain ⟨⟨c0, c1, c2, c3, c4⟩, f0, f1, f2, f3, f4⟩ := hP.cells
  obtain ⟨⟨z0, z1, z2, z3⟩, y0, y1, y2, y3⟩ := cells4f hS.blk
  have hKx : Kp (· = pb) w wc := hK0.below hS.below
  have hrc : wc.heap[rb]? = some (.cells NZ 68 (0, 0)) := by rw [hS.below.block rb hrl]; exact hr
  have hPe := hP.setAt t.e
  have hKe : Kp (· = pb) wc (wc.setCell ⟨pb, 1, none⟩ (.int .i64 t.e)) := kpset _ _ _ _
  have hrce := hKe.blk hrc hrp
  have hkbe := hKe.blk hS.blk hne
  have hKw := hKx.trans hKe (fun n e => .inl e)
  rw [HHC.out] at z0
  go_upto_region 6 with (first | (go_at_call 88; refine (called_any t.t _ htz).mono ?_; rintro e w3 ⟨rfl, rfl⟩))
  have hPel := hPe.lt
  obtain ⟨⟨e0, e1, e2, e3, e4⟩, h0', h1', h2', h3', h4'⟩ := hPe.cells
  obtain ⟨⟨x0, x1, x2, x3⟩, v0, v1, v2, v3⟩ := cells4f hkbe
  clear c0 c1 c2 c3 c4 f0 f1 f2 f3 f4 z0 z1 z2 z3 y0 y1 y2 y3
  generalize wc.setCell ⟨pb, 1, none⟩ (.int .i64 t.e) = we at *
  have HG : Hid (g = (isNm t.t && decide (nx s t.e = 40))) := hg
  clear hg
  generalize isNm t.t = nm at *
  go_cut [56] (fun s56 wx => s56 = .bool g ∧ Below we.heap.size we wx)
  case first =>
    cases nm with
    | false =>
      have HG2 : Hid (g = false) := by unfold Hid; rw [HG.out]; rfl
      clear HG
      go_quiet (fail)
      go_wp2_with fail
      go_meet
      case rel => exact ⟨by rw [HG2.out], below_drewN (Below.refl _ _) _⟩
    | true =>
      by_cases hl : t.e < s.size
      · have hl' : (t.e : Int) < (s.size : Int) := by omega
        have hnn : (0 : Int) ≤ (t.e : Int) := by omega
        have hb : (((s[t.e].toNat : Nat) : Int) == 40) = g := by
          rw [HG.out, nx_in hl, Bool.eq_iff_iff, beq_iff_eq]
          simp
          omega
        clear HG
        go_quiet (fail)
        go_wp2_with fail
        go_meet
        case rel => exact ⟨rfl, below_drewN (Below.refl _ _) _⟩
      · have hl' : ¬ (t.e : Int) < (s.size : Int) := by omega
        have HG2 : Hid (g = false) := by unfold Hid; rw [HG.out, nx_out hl]; simp
        clear HG
        go_quiet (fail)
        go_wp2_with fail
        go_meet
        case rel => exact ⟨by rw [HG2.out], below_drewN (Below.refl _ _) _⟩
  case rest =>
  obtain ⟨rfl, hbW⟩ := hcut
  clear e0 e1 e2 e3 e4 h0' h1' h2' h3' h4' x0 x1 x2 x3 v0 v1 v2 v3
  have hP6 : PD wc pb s t.e wr 0 d := hPe.below hbW
  have hr6 : wc.heap[rb]? = some (.cells NZ 68 (0, 0)) := by rw [hbW.block _ (lt_blk hrce)]; exact hrce
  have hk6 : wc.heap[kb]? = some (.cells (K4 t) 89 (0, 0)) := by rw [hbW.block _ (lt_blk hkbe)]; exact hkbe
  have hKw6 := hKw.below hbW
  obtain ⟨⟨x0, x1, x2, x3⟩, v0, v1, v2, v3⟩ := cells4f hk6
  rw [HGF.out]
  go_wp2_with fail
  go_at_call 89
  subst hd
  refine (rdeeper_full pb t.e wr s t.a _ hP6).mono ?_
  rintro e w7 ⟨rfl, hP7, hK7⟩
  clear x0 x1 x2 x3 v0 v1 v2 v3
  have hr7 := hK7.blk hr6 hrp
  have hKw7 := hKw6.trans hK7 (fun n e => .inl e)
  obtain ⟨⟨d0, d1, d2, d3, d4, d5, d6, d7, d8, d9, d10, d11⟩, df⟩ := cells12 hr7
  go_wp2_with fail
  clear d0 d1 d2 d3 d4 d5 d6 d7 d8 d9 d10 d11 df
  refine fin12 hr7 (Q := bodyPost _ _ _ _ _) ?_
  intro w9 hq9 hk9
  obtain ⟨⟨b0, b1, b2, b3, b4, b5, b6, b7, b8, b9, b10, b11⟩, bf⟩ := cells12 hq9
  refine bodyPost_ret (v := NV 0 0 nul .z .z (.slice none 0 0)) (by simp [results, Tryz.results63, go_sem, b0, b1, b2, b3, b4, b5, b6, b7, b8, b9, b10, b11]) rfl ?_
  have hP9 := hP7.keep hk9 (fun e => hrp e.symm)
  have hK9 := hKw7.trans hk9 (fun n e => by right; rw [HRB.out, e]; exact Nat.le_refl _)
  exact ⟨_, _, t.e, rfl, Nd.leaf, hP9, hte, by omega, hK9⟩
set_option maxRecDepth 100000 in
set_option maxHeartbeats 8000000 in
theorem rone_call (pb k d : Nat) (wr : Int) (s : ByteArray) (hs : s.size ≤ 200) (w : World) (h : PD w pb s k wr 0 d) (hk : k ≤ s.size) (t : Tk) (ht : tkR s k = t) (hc : t.kind = 1) (htz : t.t.size ≤ 200) (hg : true = (isNm t.t && decide (nx s t.e = 40))) (hd : d < 30) (R : Rs T) (hrec : ∀ w1, PD w1 pb s t.e wr 0 (d + 1) → Calls Tryz.prog 90 #[ptr pb, .string t.t] w1 (OutR w1 pb s d wr R)) :
    Calls Tryz.prog 63 #[ptr pb] w (OutR w pb s d wr (R)) := by
  have hte : t.e ≤ s.size := ht ▸ (tk_spec s k hk).2.2
  have HT : Hid (∀ w, Calls Tryz.prog 45 #[.string s, .int .i64 k] w fun e w' => e = .returned (KV (tkR s k).kind ((tkR s k).a : Nat) ((tkR s k).e : Nat) (tkR s k).t) ∧ Below w.heap.size w w') := fun w => token_at s k w hs hk
  rw [ht] at HT
  clear ht
  have HHC : Hid (t.kind = 1) := hc
  clear hc
  have HHREC : Hid (∀ w1, PD w1 pb s t.e wr 0 (d + 1) → Calls Tryz.prog 90 #[ptr pb, .string t.t] w1 (OutR w1 pb s d wr R)) := hrec
  clear hrec
  obtain ⟨g, hgf⟩ : ∃ g : Bool, g = true := ⟨_, rfl⟩
  rw [← hgf] at hg
  have HGF : Hid (g = true) := hgf
  clear hgf
  go_enter Tryz.func63, Tryz.ntmps63
  go_upto_region 1 with fail
  have h0 : PD (w.alloc (.cells NZ 68)) pb s k wr 0 d := h.below ((Below.refl _ _).alloc (Nat.le_refl _) _)
  have hr : (w.alloc (.cells NZ 68)).heap[w.heap.size]? = some (.cells NZ 68 (0, 0)) := blk_new _ _
  have hK0 : Kp (· = pb) w (w.alloc (.cells NZ 68)) := (Kp.refl _ w).alloc _
  have hlt := h.lt
  have hrl : w.heap.size < (w.alloc (.cells NZ 68)).heap.size := by simp
  obtain ⟨rb, hrb⟩ : ∃ rb, w.heap.size = rb := ⟨_, rfl⟩
  rw [hrb] at hr hrl hlt ⊢
  have HRB : Hid (w.heap.size = rb) := hrb
  clear hrb
  generalize w.alloc (.cells NZ 68) = w0 at *
  obtain ⟨⟨c0, c1, c2, c3, c4⟩, f0, f1, f2, f3, f4⟩ := h0.cells
  have hrp : rb ≠ pb := by omega
  go_cut [3] (fun s3 wx => ∃ kb, s3 = ptr kb ∧ KS w0 t kb wx)
  case first =>
    have hlt0 := h0.lt
    have hne : w0.heap.size ≠ pb := by omega
    have hne' : pb ≠ w0.heap.size := by omega
    have KK : Hid (∀ wx, Below w0.heap.size w0 wx → wx.cell? ⟨pb, 0, none⟩ = some (.string s) ∧ wx.cell? ⟨pb, 1, none⟩ = some (.int .i64 k)) := fun wx hb => ⟨(hb.cell (p := ⟨pb, 0, none⟩) hlt0).trans c0, (hb.cell (p := ⟨pb, 1, none⟩) hlt0).trans c1⟩
    clear c0 c1 c2 c3 c4 f0 f1 f2 f3 f4
    go_region_held3 (fun wx => wx.cell? ⟨pb, 0, none⟩ = some (.string s) ∧ wx.cell? ⟨pb, 1, none⟩ = some (.int .i64 k)) (exact KK.out _ (by (repeat (first | exact Below.refl _ _ | assumption | (refine Below.setCell ?_ (by first | exact Nat.le_refl _ | omega) _) | (refine Below.alloc ?_ (by first | exact Nat.le_refl _ | exact hb'.size | omega | (simp <;> omega)) _) | (refine Below.drew ?_))))) ((go_at_call 45; refine (HT.out _).mono ?_; rintro e w1 ⟨rfl, hb⟩; have hb' : Below w0.heap.size w0 w1 := (by first | exact kb1 hb | exact kb2 hb); first | (have hz := kz_a hb; have hz4 := cells4f hz; obtain ⟨⟨z0, z1, z2, z3⟩, y0, y1, y2, y3⟩ := hz4) | skip))
    all_goals
      go_wp2_with fail
      go_meet
      case rel => first | exact ⟨_, rfl, ks3 hb⟩ | exact ks2 hb (Q := fun W => ∃ kb, _ = ptr kb ∧ KS w0 t kb W) (fun w2 h2 => ⟨_, rfl, h2⟩)
  case rest =>
  obtain ⟨kb, rfl, hS⟩ := hcut
  clear c0 c1 c2 c3 c4 f0 f1 f2 f3 f4 HT
  have hlo := hS.lo
  have hne : kb ≠ pb := by have := h0.lt; omega
  have hner : kb ≠ rb := by omega
  have hP : PD wc pb s k wr 0 d := h0.below hS.below
  obtain ⟨⟨c0, c1, c2, c3, c4⟩, f0, f1, f2, f3, f4⟩ := hP.cells
  obtain ⟨⟨z0, z1, z2, z3⟩, y0, y1, y2, y3⟩ := cells4f hS.blk
  have hKx : Kp (· = pb) w wc := hK0.below hS.below
  have hrc : wc.heap[rb]? = some (.cells NZ 68 (0, 0)) := by rw [hS.below.block rb hrl]; exact hr
  have hPe := hP.setAt t.e
  have hKe : Kp (· = pb) wc (wc.setCell ⟨pb, 1, none⟩ (.int .i64 t.e)) := kpset _ _ _ _
  have hrce := hKe.blk hrc hrp
  have hkbe := hKe.blk hS.blk hne
  have hKw := hKx.trans hKe (fun n e => .inl e)
  rw [HHC.out] at z0
  go_upto_region 6 with (first | (go_at_call 88; refine (called_any t.t _ htz).mono ?_; rintro e w3 ⟨rfl, rfl⟩))
  have hPel := hPe.lt
  obtain ⟨⟨e0, e1, e2, e3, e4⟩, h0', h1', h2', h3', h4'⟩ := hPe.cells
  obtain ⟨⟨x0, x1, x2, x3⟩, v0, v1, v2, v3⟩ := cells4f hkbe
  clear c0 c1 c2 c3 c4 f0 f1 f2 f3 f4 z0 z1 z2 z3 y0 y1 y2 y3
  generalize wc.setCell ⟨pb, 1, none⟩ (.int .i64 t.e) = we at *
  have HG : Hid (g = (isNm t.t && decide (nx s t.e = 40))) := hg
  clear hg
  generalize isNm t.t = nm at *
  go_cut [56] (fun s56 wx => s56 = .bool g ∧ Below we.heap.size we wx)
  case first =>
    cases nm with
    | false =>
      have HG2 : Hid (g = false) := by unfold Hid; rw [HG.out]; rfl
      clear HG
      go_quiet (fail)
      go_wp2_with fail
      go_meet
      case rel => exact ⟨by rw [HG2.out], below_drewN (Below.refl _ _) _⟩
    | true =>
      by_cases hl : t.e < s.size
      · have hl' : (t.e : Int) < (s.size : Int) := by omega
        have hnn : (0 : Int) ≤ (t.e : Int) := by omega
        have hb : (((s[t.e].toNat : Nat) : Int) == 40) = g := by
          rw [HG.out, nx_in hl, Bool.eq_iff_iff, beq_iff_eq]
          simp
          omega
        clear HG
        go_quiet (fail)
        go_wp2_with fail
        go_meet
        case rel => exact ⟨rfl, below_drewN (Below.refl _ _) _⟩
      · have hl' : ¬ (t.e : Int) < (s.size : Int) := by omega
        have HG2 : Hid (g = false) := by unfold Hid; rw [HG.out, nx_out hl]; simp
        clear HG
        go_quiet (fail)
        go_wp2_with fail
        go_meet
        case rel => exact ⟨by rw [HG2.out], below_drewN (Below.refl _ _) _⟩
  case rest =>
  obtain ⟨rfl, hbW⟩ := hcut
  clear e0 e1 e2 e3 e4 h0' h1' h2' h3' h4' x0 x1 x2 x3 v0 v1 v2 v3
  have hP6 : PD wc pb s t.e wr 0 d := hPe.below hbW
  have hr6 : wc.heap[rb]? = some (.cells NZ 68 (0, 0)) := by rw [hbW.block _ (lt_blk hrce)]; exact hrce
  have hk6 : wc.heap[kb]? = some (.cells (K4 t) 89 (0, 0)) := by rw [hbW.block _ (lt_blk hkbe)]; exact hkbe
  have hKw6 := hKw.below hbW
  obtain ⟨⟨x0, x1, x2, x3⟩, v0, v1, v2, v3⟩ := cells4f hk6
  rw [HGF.out]
  go_wp2_with fail
  go_at_call 89
  refine (rdeeper_go pb t.e d wr 0 s t.a _ hP6 hd).mono ?_
  rintro e w7 ⟨rfl, hP7, hK7⟩
  clear x0 x1 x2 x3 v0 v1 v2 v3
  have hr7 := hK7.blk hr6 hrp
  have hk7 := hK7.blk hk6 hne
  have hKw7 := hKw6.trans hK7 (fun n e => .inl e)
  have hsz7 := hKw7.size
  obtain ⟨⟨x0, x1, x2, x3⟩, v0, v1, v2, v3⟩ := cells4f hk7
  go_wp2_with fail
  go_at_call 90
  refine (HHREC.out _ hP7).mono ?_
  intro e w8 ho
  obtain ⟨a1, n1, s1, r1, t1, p1, m1, e1, u, j, wr', bd, rfl, hN, hP8, hj, hK8, hX⟩ := ho.open
  have HX2 : Hid _ := hX
  clear hX ho HHREC x0 x1 x2 x3 v0 v1 v2 v3
  have hr8 := hK8.blk hr7 hrp
  have hKw8 := hKw7.trans hK8 (fun n e => .inl e)
  obtain ⟨⟨d0, d1, d2, d3, d4, d5, d6, d7, d8, d9, d10, d11⟩, df⟩ := cells12 hr8
  go_wp2_with fail
  clear d0 d1 d2 d3 d4 d5 d6 d7 d8 d9 d10 d11 df
  refine fin12 hr8 (Q := bodyPost _ _ _ _ _) ?_
  intro w9 hq9 hk9
  obtain ⟨⟨b0, b1, b2, b3, b4, b5, b6, b7, b8, b9, b10, b11⟩, bf⟩ := cells12 hq9
  refine bodyPost_ret (v := NV a1 n1 s1 r1 t1 (.slice p1 m1 e1)) (by simp [results, Tryz.results63, go_sem, b0, b1, b2, b3, b4, b5, b6, b7, b8, b9, b10, b11]) rfl ?_
  have hP9 := hP8.keep hk9 (fun e => hrp e.symm)
  have hK9 := hKw8.trans hk9 (fun n e => by right; rw [HRB.out, e]; exact Nat.le_refl _)
  have q2 := hk9.size
  have hN9 : Nd w9 (Own w w9) (NV a1 n1 s1 r1 t1 (.slice p1 m1 e1)) u := hN.mono (fun n hn => hk9.block n hn.2 (by have := hn.1; have := lt_blk hr7; omega)) (fun n hn => ⟨by have := hn.1; omega, by have := hn.2; omega⟩)
  rcases HX2.out with ⟨k', rfl, rfl, rfl, hsk⟩ | ⟨f, rfl, rfl, hb⟩
  · exact ⟨_, j, rfl, hN9, hP9, hj, hsk, hK9⟩
  · exact ⟨_, _, j, rfl, hN9, hP9, hj, hb, hK9⟩
end Go.Proofs.YtcekgefkimbfaaaGreatDoor.fm
