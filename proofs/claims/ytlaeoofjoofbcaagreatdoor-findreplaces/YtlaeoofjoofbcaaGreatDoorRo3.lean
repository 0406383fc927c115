
/- The reference's One at a text. Condition: the place lies in the text, which has at most 200 bytes. -/
import Derived.Test.YtlaeoofjoofbcaaGreatDoorRm
namespace Go.Proofs.YtlaeoofjoofbcaaGreatDoor.fm
open Go.RowKit
set_option maxRecDepth 100000 in
set_option maxHeartbeats 8000000 in
theorem rone_text (pb k d : Nat) (wr : Int) (s : ByteArray) (hs : s.size ≤ 200) (w : World) (h : PD w pb s k wr 0 d) (hk : k ≤ s.size) (t : Tk) (ht : tkR s k = t) (hc : t.kind = 2) :
    Calls Tryz.prog 51 #[ptr pb] w (OutR w pb s d wr (.ok (tText t.t) t.e)) := by
  have hte : t.e ≤ s.size := ht ▸ (tk_spec s k hk).2.2
  have HT : Hid (∀ w, Calls Tryz.prog 36 #[.string s, .int .i64 k] w fun e w' => e = .returned (KV (tkR s k).kind ((tkR s k).a : Nat) ((tkR s k).e : Nat) (tkR s k).t) ∧ Below w.heap.size w w') := fun w => token_at s k w hs hk
  rw [ht] at HT
  clear ht
  have HHC : Hid (t.kind = 2) := hc
  clear hc
  go_enter Tryz.func51, Tryz.ntmps51
  go_upto_region 1 with fail
  have h0 : PD (w.alloc (.cells NZ 62)) pb s k wr 0 d := h.below ((Below.refl _ _).alloc (Nat.le_refl _) _)
  have hr : (w.alloc (.cells NZ 62)).heap[w.heap.size]? = some (.cells NZ 62 (0, 0)) := blk_new _ _
  have hK0 : Kp (· = pb) w (w.alloc (.cells NZ 62)) := (Kp.refl _ w).alloc _
  have hlt := h.lt
  have hrl : w.heap.size < (w.alloc (.cells NZ 62)).heap.size := by simp
  obtain ⟨rb, hrb⟩ : ∃ rb, w.heap.size = rb := ⟨_, rfl⟩
  rw [hrb] at hr hrl hlt ⊢
  have HRB : Hid (w.heap.size = rb) := hrb
  clear hrb
  generalize w.alloc (.cells NZ 62) = w0 at *
  obtain ⟨⟨c0, c1, c2, c3, c4⟩, f0, f1, f2, f3, f4⟩ := h0.cells
  have hrp : rb ≠ pb := by omega
  go_cut [3] (fun s3 wx => ∃ kb, s3 = ptr kb ∧ KS w0 t kb wx)
  case first =>
    have hlt0 := h0.lt
    have hne : w0.heap.size ≠ pb := by omega
    have hne' : pb ≠ w0.heap.size := by omega
    have KK : Hid (∀ wx, Below w0.heap.size w0 wx → wx.cell? ⟨pb, 0, none⟩ = some (.string s) ∧ wx.cell? ⟨pb, 1, none⟩ = some (.int .i64 k)) := fun wx hb => ⟨(hb.cell (p := ⟨pb, 0, none⟩) hlt0).trans c0, (hb.cell (p := ⟨pb, 1, none⟩) hlt0).trans c1⟩
    clear c0 c1 c2 c3 c4 f0 f1 f2 f3 f4
    go_region_held3 (fun wx => wx.cell? ⟨pb, 0, none⟩ = some (.string s) ∧ wx.cell? ⟨pb, 1, none⟩ = some (.int .i64 k)) (exact KK.out _ (by (repeat (first | exact Below.refl _ _ | assumption | (refine Below.setCell ?_ (by first | exact Nat.le_refl _ | omega) _) | (refine Below.alloc ?_ (by first | exact Nat.le_refl _ | exact hb'.size | omega | (simp <;> omega)) _) | (refine Below.drew ?_))))) ((go_at_call 36; refine (HT.out _).mono ?_; rintro e w1 ⟨rfl, hb⟩; have hb' : Below w0.heap.size w0 w1 := (by first | exact kb1 hb | exact kb2 hb); first | (have hz := kz_a hb; have hz4 := cells4f hz; obtain ⟨⟨z0, z1, z2, z3⟩, y0, y1, y2, y3⟩ := hz4) | skip))
    all_goals
      go_wp2_with fail
      go_meet
      case rel => first | exact ⟨_, rfl, ks3 hb⟩ | exact ks2 hb (Q := fun W => ∃ kb, _ = ptr kb ∧ KS w0 t kb W) (fun w2 h2 => ⟨_, rfl, h2⟩)
  case rest =>
  obtain ⟨kb, rfl, hS⟩ := hcut
  clear c0 c1 c2 c3 c4 f0 f1 f2 f3 f4 HT
  have hlo := hS.lo
  have hne : kb ≠ pb := by have := h0.lt; omega
  have hner : kb ≠ rb := by omega
  have hP : PD wc pb s k wr 0 d := h0.below hS.below
  obtain ⟨⟨c0, c1, c2, c3, c4⟩, f0, f1, f2, f3, f4⟩ := hP.cells
  obtain ⟨⟨z0, z1, z2, z3⟩, y0, y1, y2, y3⟩ := cells4f hS.blk
  have hKx : Kp (· = pb) w wc := hK0.below hS.below
  have hrc : wc.heap[rb]? = some (.cells NZ 62 (0, 0)) := by rw [hS.below.block rb hrl]; exact hr
  have hPe := hP.setAt t.e
  have hKe : Kp (· = pb) wc (wc.setCell ⟨pb, 1, none⟩ (.int .i64 t.e)) := kpset _ _ _ _
  have hrce := hKe.blk hrc hrp
  have hkbe := hKe.blk hS.blk hne
  have hKw := hKx.trans hKe (fun n e => .inl e)
  rw [HHC.out] at z0
  obtain ⟨⟨d0, d1, d2, d3, d4, d5, d6, d7, d8, d9, d10, d11⟩, df⟩ := cells12 hrc
  go_wp2_with fail
  clear c0 c1 c2 c3 c4 f0 f1 f2 f3 f4 z0 z1 z2 z3 y0 y1 y2 y3 d0 d1 d2 d3 d4 d5 d6 d7 d8 d9 d10 d11 df
  refine fin12 hrce (Q := bodyPost _ _ _ _ _) ?_
  intro w9 hq9 hk9
  obtain ⟨⟨b0, b1, b2, b3, b4, b5, b6, b7, b8, b9, b10, b11⟩, bf⟩ := cells12 hq9
  refine bodyPost_ret (v := NV 2 0 t.t .z .z (.slice none 0 0)) (by simp [results, Tryz.results51, go_sem, b0, b1, b2, b3, b4, b5, b6, b7, b8, b9, b10, b11]) rfl ?_
  have hP9 := hPe.keep hk9 (fun e => hrp e.symm)
  have hK9 := hKw.trans hk9 (fun n e => by right; rw [HRB.out, e]; exact Nat.le_refl _)
  exact ⟨_, t.e, rfl, Nd.leaf, hP9, hte, rfl, hK9⟩
end Go.Proofs.YtlaeoofjoofbcaaGreatDoor.fm
/- The reference's One where no operand stands. Condition: the place lies in the text, which has at most 200 bytes. -/
namespace Go.Proofs.YtlaeoofjoofbcaaGreatDoor.fm
open Go.RowKit
set_option maxRecDepth 100000 in
set_option maxHeartbeats 8000000 in
theorem rone_no (pb k d : Nat) (wr : Int) (s : ByteArray) (hs : s.size ≤ 200) (w : World) (h : PD w pb s k wr 0 d) (hk : k ≤ s.size) (t : Tk) (ht : tkR s k = t) (h1 : t.kind ≠ 1) (h2 : t.kind ≠ 2) (h3 : t.kind ≠ 3) (h4 : t.kind ≠ 4) :
    Calls Tryz.prog 51 #[ptr pb] w (OutR w pb s d wr (.err t.a 2)) := by
  have hte : t.e ≤ s.size := ht ▸ (tk_spec s k hk).2.2
  have HT : Hid (∀ w, Calls Tryz.prog 36 #[.string s, .int .i64 k] w fun e w' => e = .returned (KV (tkR s k).kind ((tkR s k).a : Nat) ((tkR s k).e : Nat) (tkR s k).t) ∧ Below w.heap.size w w') := fun w => token_at s k w hs hk
  rw [ht] at HT
  clear ht
  have g1 : (t.kind == 1) = false := beq_eq_false_iff_ne.2 h1
  have g2 : (t.kind == 2) = false := beq_eq_false_iff_ne.2 h2
  have g3 : (t.kind == 3) = false := beq_eq_false_iff_ne.2 h3
  have g4 : (t.kind == 4) = false := beq_eq_false_iff_ne.2 h4
  clear h1 h2 h3 h4
  go_enter Tryz.func51, Tryz.ntmps51
  go_upto_region 1 with fail
  have h0 : PD (w.alloc (.cells NZ 62)) pb s k wr 0 d := h.below ((Below.refl _ _).alloc (Nat.le_refl _) _)
  have hr : (w.alloc (.cells NZ 62)).heap[w.heap.size]? = some (.cells NZ 62 (0, 0)) := blk_new _ _
  have hK0 : Kp (· = pb) w (w.alloc (.cells NZ 62)) := (Kp.refl _ w).alloc _
  have hlt := h.lt
  have hrl : w.heap.size < (w.alloc (.cells NZ 62)).heap.size := by simp
  obtain ⟨rb, hrb⟩ : ∃ rb, w.heap.size = rb := ⟨_, rfl⟩
  rw [hrb] at hr hrl hlt ⊢
  have HRB : Hid (w.heap.size = rb) := hrb
  clear hrb
  generalize w.alloc (.cells NZ 62) = w0 at *
  obtain ⟨⟨c0, c1, c2, c3, c4⟩, f0, f1, f2, f3, f4⟩ := h0.cells
  have hrp : rb ≠ pb := by omega
  go_cut [3] (fun s3 wx => ∃ kb, s3 = ptr kb ∧ KS w0 t kb wx)
  case first =>
    have hlt0 := h0.lt
    have hne : w0.heap.size ≠ pb := by omega
    have hne' : pb ≠ w0.heap.size := by omega
    have KK : Hid (∀ wx, Below w0.heap.size w0 wx → wx.cell? ⟨pb, 0, none⟩ = some (.string s) ∧ wx.cell? ⟨pb, 1, none⟩ = some (.int .i64 k)) := fun wx hb => ⟨(hb.cell (p := ⟨pb, 0, none⟩) hlt0).trans c0, (hb.cell (p := ⟨pb, 1, none⟩) hlt0).trans c1⟩
    clear c0 c1 c2 c3 c4 f0 f1 f2 f3 f4
    go_region_held3 (fun wx => wx.cell? ⟨pb, 0, none⟩ = some (.string s) ∧ wx.cell? ⟨pb, 1, none⟩ = some (.int .i64 k)) (exact KK.out _ (by (repeat (first | exact Below.refl _ _ | assumption | (refine Below.setCell ?_ (by first | exact Nat.le_refl _ | omega) _) | (refine Below.alloc ?_ (by first | exact Nat.le_refl _ | exact hb'.size | omega | (simp <;> omega)) _) | (refine Below.drew ?_))))) ((go_at_call 36; refine (HT.out _).mono ?_; rintro e w1 ⟨rfl, hb⟩; have hb' : Below w0.heap.size w0 w1 := (by first | exact kb1 hb | exact kb2 hb); first | (have hz := kz_a hb; have hz4 := cells4f hz; obtain ⟨⟨z0, z1, z2, z3⟩, y0, y1, y2, y3⟩ := hz4) | skip))
    all_goals
      go_wp2_with fail
      go_meet
      case rel => first | exact ⟨_, rfl, ks3 hb⟩ | exact ks2 hb (Q := fun W => ∃ kb, _ = ptr kb ∧ KS w0 t kb W) (fun w2 h2 => ⟨_, rfl, h2⟩)
  case rest =>
  obtain ⟨kb, rfl, hS⟩ := hcut
  clear c0 c1 c2 c3 c4 f0 f1 f2 f3 f4 HT
  have hlo := hS.lo
  have hne : kb ≠ pb := by have := h0.lt; omega
  have hner : kb ≠ rb := by omega
  have hP : PD wc pb s k wr 0 d := h0.below hS.below
  obtain ⟨⟨c0, c1, c2, c3, c4⟩, f0, f1, f2, f3, f4⟩ := hP.cells
  obtain ⟨⟨z0, z1, z2, z3⟩, y0, y1, y2, y3⟩ := cells4f hS.blk
  have hKx : Kp (· = pb) w wc := hK0.below hS.below
  have hrc : wc.heap[rb]? = some (.cells NZ 62 (0, 0)) := by rw [hS.below.block rb hrl]; exact hr
  have hPe := hP.setAt t.e
  have hKe : Kp (· = pb) wc (wc.setCell ⟨pb, 1, none⟩ (.int .i64 t.e)) := kpset _ _ _ _
  have hrce := hKe.blk hrc hrp
  have hkbe := hKe.blk hS.blk hne
  have hKw := hKx.trans hKe (fun n e => .inl e)
  go_wp2_with fail
  go_at_call 37
  refine (fail_first pb t.e d wr s t.a 2 _ hPe).mono ?_
  rintro e w3 ⟨rfl, hP3, hK3⟩
  have hr3 := hK3.blk hrce hrp
  have hKw3 := hKw.trans hK3 (fun n e => .inl e)
  clear c0 c1 c2 c3 c4 f0 f1 f2 f3 f4 z0 z1 z2 z3 y0 y1 y2 y3
  obtain ⟨⟨d0, d1, d2, d3, d4, d5, d6, d7, d8, d9, d10, d11⟩, df⟩ := cells12 hr3
  go_wp2_with fail
  clear d0 d1 d2 d3 d4 d5 d6 d7 d8 d9 d10 d11 df
  refine fin12 hr3 (Q := bodyPost _ _ _ _ _) ?_
  intro w9 hq9 hk9
  obtain ⟨⟨b0, b1, b2, b3, b4, b5, b6, b7, b8, b9, b10, b11⟩, bf⟩ := cells12 hq9
  refine bodyPost_ret (v := NV 0 0 nul .z .z (.slice none 0 0)) (by simp [results, Tryz.results51, go_sem, b0, b1, b2, b3, b4, b5, b6, b7, b8, b9, b10, b11]) rfl ?_
  have hP9 := hP3.keep hk9 (fun e => hrp e.symm)
  have hK9 := hKw3.trans hk9 (fun n e => by right; rw [HRB.out, e]; exact Nat.le_refl _)
  exact ⟨_, _, t.e, rfl, Nd.leaf, hP9, hte, by omega, hK9⟩
set_option maxRecDepth 100000 in
set_option maxHeartbeats 8000000 in
theorem rone_sign (pb k d : Nat) (wr : Int) (s : ByteArray) (hs : s.size ≤ 200) (w : World) (h : PD w pb s k wr 0 d) (hk : k ≤ s.size) (t : Tk) (ht : tkR s k = t) (hc : t.kind = 4) (h1 : (t.t.toList == [45]) = false) (h2 : (t.t.toList == [40]) = false) :
    Calls Tryz.prog 51 #[ptr pb] w (OutR w pb s d wr (.err t.a 2)) := by
  have hte : t.e ≤ s.size := ht ▸ (tk_spec s k hk).2.2
  have HT : Hid (∀ w, Calls Tryz.prog 36 #[.string s, .int .i64 k] w fun e w' => e = .returned (KV (tkR s k).kind ((tkR s k).a : Nat) ((tkR s k).e : Nat) (tkR s k).t) ∧ Below w.heap.size w w') := fun w => token_at s k w hs hk
  rw [ht] at HT
  clear ht
  have HHC : Hid (t.kind = 4) := hc
  clear hc
  go_enter Tryz.func51, Tryz.ntmps51
  go_upto_region 1 with fail
  have h0 : PD (w.alloc (.cells NZ 62)) pb s k wr 0 d := h.below ((Below.refl _ _).alloc (Nat.le_refl _) _)
  have hr : (w.alloc (.cells NZ 62)).heap[w.heap.size]? = some (.cells NZ 62 (0, 0)) := blk_new _ _
  have hK0 : Kp (· = pb) w (w.alloc (.cells NZ 62)) := (Kp.refl _ w).alloc _
  have hlt := h.lt
  have hrl : w.heap.size < (w.alloc (.cells NZ 62)).heap.size := by simp
  obtain ⟨rb, hrb⟩ : ∃ rb, w.heap.size = rb := ⟨_, rfl⟩
  rw [hrb] at hr hrl hlt ⊢
  have HRB : Hid (w.heap.size = rb) := hrb
  clear hrb
  generalize w.alloc (.cells NZ 62) = w0 at *
  obtain ⟨⟨c0, c1, c2, c3, c4⟩, f0, f1, f2, f3, f4⟩ := h0.cells
  have hrp : rb ≠ pb := by omega
  go_cut [3] (fun s3 wx => ∃ kb, s3 = ptr kb ∧ KS w0 t kb wx)
  case first =>
    have hlt0 := h0.lt
    have hne : w0.heap.size ≠ pb := by omega
    have hne' : pb ≠ w0.heap.size := by omega
    have KK : Hid (∀ wx, Below w0.heap.size w0 wx → wx.cell? ⟨pb, 0, none⟩ = some (.string s) ∧ wx.cell? ⟨pb, 1, none⟩ = some (.int .i64 k)) := fun wx hb => ⟨(hb.cell (p := ⟨pb, 0, none⟩) hlt0).trans c0, (hb.cell (p := ⟨pb, 1, none⟩) hlt0).trans c1⟩
    clear c0 c1 c2 c3 c4 f0 f1 f2 f3 f4
    go_region_held3 (fun wx => wx.cell? ⟨pb, 0, none⟩ = some (.string s) ∧ wx.cell? ⟨pb, 1, none⟩ = some (.int .i64 k)) (exact KK.out _ (by (repeat (first | exact Below.refl _ _ | assumption | (refine Below.setCell ?_ (by first | exact Nat.le_refl _ | omega) _) | (refine Below.alloc ?_ (by first | exact Nat.le_refl _ | exact hb'.size | omega | (simp <;> omega)) _) | (refine Below.drew ?_))))) ((go_at_call 36; refine (HT.out _).mono ?_; rintro e w1 ⟨rfl, hb⟩; have hb' : Below w0.heap.size w0 w1 := (by first | exact kb1 hb | exact kb2 hb); first | (have hz := kz_a hb; have hz4 := cells4f hz; obtain ⟨⟨z0, z1, z2, z3⟩, y0, y1, y2, y3⟩ := hz4) | skip))
    all_goals
      go_wp2_with fail
      go_meet
      case rel => first | exact ⟨_, rfl, ks3 hb⟩ | exact ks2 hb (Q := fun W => ∃ kb, _ = ptr kb ∧ KS w0 t kb W) (fun w2 h2 => ⟨_, rfl, h2⟩)
  case rest =>
  obtain ⟨kb, rfl, hS⟩ := hcut
  clear c0 c1 c2 c3 c4 f0 f1 f2 f3 f4 HT
  have hlo := hS.lo
  have hne : kb ≠ pb := by have := h0.lt; omega
  have hner : kb ≠ rb := by omega
  have hP : PD wc pb s k wr 0 d := h0.below hS.below
  obtain ⟨⟨c0, c1, c2, c3, c4⟩, f0, f1, f2, f3, f4⟩ := hP.cells
  obtain ⟨⟨z0, z1, z2, z3⟩, y0, y1, y2, y3⟩ := cells4f hS.blk
  have hKx : Kp (· = pb) w wc := hK0.below hS.below
  have hrc : wc.heap[rb]? = some (.cells NZ 62 (0, 0)) := by rw [hS.below.block rb hrl]; exact hr
  have hPe := hP.setAt t.e
  have hKe : Kp (· = pb) wc (wc.setCell ⟨pb, 1, none⟩ (.int .i64 t.e)) := kpset _ _ _ _
  have hrce := hKe.blk hrc hrp
  have hkbe := hKe.blk hS.blk hne
  have hKw := hKx.trans hKe (fun n e => .inl e)
  rw [HHC.out] at z0
  go_wp2_with fail
  go_at_call 37
  refine (fail_first pb t.e d wr s t.a 2 _ hPe).mono ?_
  rintro e w3 ⟨rfl, hP3, hK3⟩
  have hr3 := hK3.blk hrce hrp
  have hKw3 := hKw.trans hK3 (fun n e => .inl e)
  clear c0 c1 c2 c3 c4 f0 f1 f2 f3 f4 z0 z1 z2 z3 y0 y1 y2 y3
  obtain ⟨⟨d0, d1, d2, d3, d4, d5, d6, d7, d8, d9, d10, d11⟩, df⟩ := cells12 hr3
  go_wp2_with fail
  clear d0 d1 d2 d3 d4 d5 d6 d7 d8 d9 d10 d11 df
  refine fin12 hr3 (Q := bodyPost _ _ _ _ _) ?_
  intro w9 hq9 hk9
  obtain ⟨⟨b0, b1, b2, b3, b4, b5, b6, b7, b8, b9, b10, b11⟩, bf⟩ := cells12 hq9
  refine bodyPost_ret (v := NV 0 0 nul .z .z (.slice none 0 0)) (by simp [results, Tryz.results51, go_sem, b0, b1, b2, b3, b4, b5, b6, b7, b8, b9, b10, b11]) rfl ?_
  have hP9 := hP3.keep hk9 (fun e => hrp e.symm)
  have hK9 := hKw3.trans hk9 (fun n e => by right; rw [HRB.out, e]; exact Nat.le_refl _)
  exact ⟨_, _, t.e, rfl, Nd.leaf, hP9, hte, by omega, hK9⟩
end Go.Proofs.YtlaeoofjoofbcaaGreatDoor.fm
