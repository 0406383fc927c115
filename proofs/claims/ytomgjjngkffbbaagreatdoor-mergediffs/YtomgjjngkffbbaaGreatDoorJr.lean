
/- The reference's Check of a sheet, and of a text. Conditions: as each theorem says. -/
import Derived.Test.YtomgjjngkffbbaaGreatDoorRm
import Derived.Test.YtomgjjngkffbbaaGreatDoorRead
import Derived.Test.YtomgjjngkffbbaaGreatDoorRm2
import Derived.Deep.QuietTactic
import Derived.BigQuiet
import Derived.Test.YtomgjjngkffbbaaGreatDoorRo6
import Derived.Test.YtomgjjngkffbbaaGreatDoorRm3
import Derived.Test.YtomgjjngkffbbaaGreatDoorRk1
import Derived.Test.YtomgjjngkffbbaaGreatDoorYb
import Derived.Test.YtomgjjngkffbbaaGreatDoorYc

/- The reference's One at a text. Condition: the place lies in the text, which has at most 200 bytes. -/
namespace Go.Proofs.YtomgjjngkffbbaaGreatDoor.fm
open Go.RowKit
set_option maxRecDepth 100000 in
set_option maxHeartbeats 8000000 in
theorem rone_text (pb k d : Nat) (wr : Int) (s : ByteArray) (hs : s.size ≤ 200) (w : World) (h : PD w pb s k wr 0 d) (hk : k ≤ s.size) (t : Tk) (ht : tkR s k = t) (hc : t.kind = 2) :
    Calls Tryz.prog 70 #[ptr pb] w (OutR w pb s d wr (.ok (tText t.t) t.e)) := by
  have hte : t.e ≤ s.size := ht ▸ (tk_spec s k hk).2.2
  have HT : Hid (∀ w, Calls Tryz.prog 54 #[.string s, .int .i64 k] w fun e w' => e = .returned (KV (tkR s k).kind ((tkR s k).a : Nat) ((tkR s k).e : Nat) (tkR s k).t) ∧ Below w.heap.size w w') := fun w => token_at s k w hs hk
  rw [ht] at HT
  clear ht
  have HHC : Hid (t.kind = 2) := hc
  clear hc
  go_enter Tryz.func70, Tryz.ntmps70
  go_upto_region 1 with fail
  have h0 : PD (w.alloc (.cells NZ 77)) pb s k wr 0 d := h.below ((Below.refl _ _).alloc (Nat.le_refl _) _)
  have hr : (w.alloc (.cells NZ 77)).heap[w.heap.size]? = some (.cells NZ 77 (0, 0)) := blk_new _ _
  have hK0 : Kp (· = pb) w (w.alloc (.cells NZ 77)) := (Kp.refl _ w).alloc _
  have hlt := h.lt
  have hrl : w.heap.size < (w.alloc (.cells NZ 77)).heap.size := by simp
  obtain ⟨rb, hrb⟩ : ∃ rb, w.heap.size = rb := ⟨_, rfl⟩
  rw [hrb] at hr hrl hlt ⊢
  have HRB : Hid (w.heap.size = rb) := hrb
  clear hrb
  generalize w.alloc (.cells NZ 77) = w0 at *
  obtain ⟨⟨c0, c1, c2, c3, c4⟩, f0, f1, f2, f3, f4⟩ := h0.cells
  have hrp : rb ≠ pb := by omega
  go_cut [3] (fun s3 wx => ∃ kb, s3 = ptr kb ∧ KS w0 t kb wx)
  case first =>
    have hlt0 := h0.lt
    have hne : w0.heap.size ≠ pb := by omega
    have hne' : pb ≠ w0.heap.size := by omega
    have KK : Hid (∀ wx, Below w0.heap.size w0 wx → wx.cell? ⟨pb, 0, none⟩ = some (.string s) ∧ wx.cell? ⟨pb, 1, none⟩ = some (.int .i64 k)) := fun wx hb => ⟨(hb.cell (p := ⟨pb, 0, none⟩) hlt0).trans c0, (hb.cell (p := ⟨pb, 1, none⟩) hlt0).trans c1⟩
    clear c0 c1 c2 c3 c4 f0 f1 f2 f3 f4
    go_region_held3 (fun wx => wx.cell? ⟨pb, 0, none⟩ = some (.string s) ∧ wx.cell? ⟨pb, 1, none⟩ = some (.int .i64 k)) (exact KK.out _ (by (repeat (first | exact Below.refl _ _ | assumption | (refine Below.setCell ?_ (by first | exact Nat.le_refl _ | omega) _) | (refine Below.alloc ?_ (by first | exact Nat.le_refl _ | exact hb'.size | omega | (simp <;> omega)) _) | (refine Below.drew ?_))))) ((go_at_call 54; refine (HT.out _).mono ?_; rintro e w1 ⟨rfl, hb⟩; have hb' : Below w0.heap.size w0 w1 := (by first | exact kb1 hb | exact kb2 hb); first | (have hz := kz_a hb; have hz4 := cells4f hz; obtain ⟨⟨z0, z1, z2, z3⟩, y0, y1, y2, y3⟩ := hz4) | skip))
    all_goals
      go_wp2_with fail
      go_meet
      case rel => first | exact ⟨_, rfl, ks3 hb⟩ | exact ks2 hb (Q := fun W => ∃ kb, _ = ptr kb ∧ KS w0 t kb W) (fun w2 h2 => ⟨_, rfl, h2⟩)
  case rest =>
  obtain ⟨kb, rfl, hS⟩ := hcut
  clear c0 c1 c2 c3 c4 f0 f1 f2 f3 f4 HT
  have hlo := hS.lo
  have hne : kb ≠ pb := by have := h0.lt; omega
  have hner : kb ≠ rb := by omega
  have hP : PD wc pb s k wr 0 d := h0.below hS.below
  obtain ⟨⟨c0, c1, c2, c3, c4⟩, f0, f1, f2, f3, f4⟩ := hP.cells
  obtain ⟨⟨z0, z1, z2, z3⟩, y0, y1, y2, y3⟩ := cells4f hS.blk
  have hKx : Kp (· = pb) w wc := hK0.below hS.below
  have hrc : wc.heap[rb]? = some (.cells NZ 77 (0, 0)) := by rw [hS.below.block rb hrl]; exact hr
  have hPe := hP.setAt t.e
  have hKe : Kp (· = pb) wc (wc.setCell ⟨pb, 1, none⟩ (.int .i64 t.e)) := kpset _ _ _ _
  have hrce := hKe.blk hrc hrp
  have hkbe := hKe.blk hS.blk hne
  have hKw := hKx.trans hKe (fun n e => .inl e)
  rw [HHC.out] at z0
  obtain ⟨⟨d0, d1, d2, d3, d4, d5, d6, d7, d8, d9, d10, d11⟩, df⟩ := cells12 hrc
  go_wp2_with fail
  clear c0 c1 c2 c3 c4 f0 f1 f2 f3 f4 z0 z1 z2 z3 y0 y1 y2 y3 d0 d1 d2 d3 d4 d5 d6 d7 d8 d9 d10 d11 df
  refine fin12 hrce (Q := bodyPost _ _ _ _ _) ?_
  intro w9 hq9 hk9
  obtain ⟨⟨b0, b1, b2, b3, b4, b5, b6, b7, b8, b9, b10, b11⟩, bf⟩ := cells12 hq9
  refine bodyPost_ret (v := NV 2 0 t.t .z .z (.slice none 0 0)) (by simp [results, Tryz.results70, go_sem, b0, b1, b2, b3, b4, b5, b6, b7, b8, b9, b10, b11]) rfl ?_
  have hP9 := hPe.keep hk9 (fun e => hrp e.symm)
  have hK9 := hKw.trans hk9 (fun n e => by right; rw [HRB.out, e]; exact Nat.le_refl _)
  exact ⟨_, t.e, rfl, Nd.leaf, hP9, hte, rfl, hK9⟩
end Go.Proofs.YtomgjjngkffbbaaGreatDoor.fm
/- The reference's One where no operand stands. Condition: the place lies in the text, which has at most 200 bytes. -/
namespace Go.Proofs.YtomgjjngkffbbaaGreatDoor.fm
open Go.RowKit
set_option maxRecDepth 100000 in
set_option maxHeartbeats 8000000 in
theorem rone_no (pb k d : Nat) (wr : Int) (s : ByteArray) (hs : s.size ≤ 200) (w : World) (h : PD w pb s k wr 0 d) (hk : k ≤ s.size) (t : Tk) (ht : tkR s k = t) (h1 : t.kind ≠ 1) (h2 : t.kind ≠ 2) (h3 : t.kind ≠ 3) (h4 : t.kind ≠ 4) :
    Calls Tryz.prog 70 #[ptr pb] w (OutR w pb s d wr (.err t.a 2)) := by
  have hte : t.e ≤ s.size := ht ▸ (tk_spec s k hk).2.2
  have HT : Hid (∀ w, Calls Tryz.prog 54 #[.string s, .int .i64 k] w fun e w' => e = .returned (KV (tkR s k).kind ((tkR s k).a : Nat) ((tkR s k).e : Nat) (tkR s k).t) ∧ Below w.heap.size w w') := fun w => token_at s k w hs hk
  rw [ht] at HT
  clear ht
  have g1 : (t.kind == 1) = false := beq_eq_false_iff_ne.2 h1
  have g2 : (t.kind == 2) = false := beq_eq_false_iff_ne.2 h2
  have g3 : (t.kind == 3) = false := beq_eq_false_iff_ne.2 h3
  have g4 : (t.kind == 4) = false := beq_eq_false_iff_ne.2 h4
  clear h1 h2 h3 h4
  go_enter Tryz.func70, Tryz.ntmps70
  go_upto_region 1 with fail
  have h0 : PD (w.alloc (.cells NZ 77)) pb s k wr 0 d := h.below ((Below.refl _ _).alloc (Nat.le_refl _) _)
  have hr : (w.alloc (.cells NZ 77)).heap[w.heap.size]? = some (.cells NZ 77 (0, 0)) := blk_new _ _
  have hK0 : Kp (· = pb) w (w.alloc (.cells NZ 77)) := (Kp.refl _ w).alloc _
  have hlt := h.lt
  have hrl : w.heap.size < (w.alloc (.cells NZ 77)).heap.size := by simp
  obtain ⟨rb, hrb⟩ : ∃ rb, w.heap.size = rb := ⟨_, rfl⟩
  rw [hrb] at hr hrl hlt ⊢
  have HRB : Hid (w.heap.size = rb) := hrb
  clear hrb
  generalize w.alloc (.cells NZ 77) = w0 at *
  obtain ⟨⟨c0, c1, c2, c3, c4⟩, f0, f1, f2, f3, f4⟩ := h0.cells
  have hrp : rb ≠ pb := by omega
  go_cut [3] (fun s3 wx => ∃ kb, s3 = ptr kb ∧ KS w0 t kb wx)
  case first =>
    have hlt0 := h0.lt
    have hne : w0.heap.size ≠ pb := by omega
    have hne' : pb ≠ w0.heap.size := by omega
    have KK : Hid (∀ wx, Below w0.heap.size w0 wx → wx.cell? ⟨pb, 0, none⟩ = some (.string s) ∧ wx.cell? ⟨pb, 1, none⟩ = some (.int .i64 k)) := fun wx hb => ⟨(hb.cell (p := ⟨pb, 0, none⟩) hlt0).trans c0, (hb.cell (p := ⟨pb, 1, none⟩) hlt0).trans c1⟩
    clear c0 c1 c2 c3 c4 f0 f1 f2 f3 f4
    go_region_held3 (fun wx => wx.cell? ⟨pb, 0, none⟩ = some (.string s) ∧ wx.cell? ⟨pb, 1, none⟩ = some (.int .i64 k)) (exact KK.out _ (by (repeat (first | exact Below.refl _ _ | assumption | (refine Below.setCell ?_ (by first | exact Nat.le_refl _ | omega) _) | (refine Below.alloc ?_ (by first | exact Nat.le_refl _ | exact hb'.size | omega | (simp <;> omega)) _) | (refine Below.drew ?_))))) ((go_at_call 54; refine (HT.out _).mono ?_; rintro e w1 ⟨rfl, hb⟩; have hb' : Below w0.heap.size w0 w1 := (by first | exact kb1 hb | exact kb2 hb); first | (have hz := kz_a hb; have hz4 := cells4f hz; obtain ⟨⟨z0, z1, z2, z3⟩, y0, y1, y2, y3⟩ := hz4) | skip))
    all_goals
      go_wp2_with fail
      go_meet
      case rel => first | exact ⟨_, rfl, ks3 hb⟩ | exact ks2 hb (Q := fun W => ∃ kb, _ = ptr kb ∧ KS w0 t kb W) (fun w2 h2 => ⟨_, rfl, h2⟩)
  case rest =>
  obtain ⟨kb, rfl, hS⟩ := hcut
  clear c0 c1 c2 c3 c4 f0 f1 f2 f3 f4 HT
  have hlo := hS.lo
  have hne : kb ≠ pb := by have := h0.lt; omega
  have hner : kb ≠ rb := by omega
  have hP : PD wc pb s k wr 0 d := h0.below hS.below
  obtain ⟨⟨c0, c1, c2, c3, c4⟩, f0, f1, f2, f3, f4⟩ := hP.cells
  obtain ⟨⟨z0, z1, z2, z3⟩, y0, y1, y2, y3⟩ := cells4f hS.blk
  have hKx : Kp (· = pb) w wc := hK0.below hS.below
  have hrc : wc.heap[rb]? = some (.cells NZ 77 (0, 0)) := by rw [hS.below.block rb hrl]; exact hr
  have hPe := hP.setAt t.e
  have hKe : Kp (· = pb) wc (wc.setCell ⟨pb, 1, none⟩ (.int .i64 t.e)) := kpset _ _ _ _
  have hrce := hKe.blk hrc hrp
  have hkbe := hKe.blk hS.blk hne
  have hKw := hKx.trans hKe (fun n e => .inl e)
  go_wp2_with fail
  go_at_call 55
  refine (fail_first pb t.e d wr s t.a 2 _ hPe).mono ?_
  rintro e w3 ⟨rfl, hP3, hK3⟩
  have hr3 := hK3.blk hrce hrp
  have hKw3 := hKw.trans hK3 (fun n e => .inl e)
  clear c0 c1 c2 c3 c4 f0 f1 f2 f3 f4 z0 z1 z2 z3 y0 y1 y2 y3
  obtain ⟨⟨d0, d1, d2, d3, d4, d5, d6, d7, d8, d9, d10, d11⟩, df⟩ := cells12 hr3
  go_wp2_with fail
  clear d0 d1 d2 d3 d4 d5 d6 d7 d8 d9 d10 d11 df
  refine fin12 hr3 (Q := bodyPost _ _ _ _ _) ?_
  intro w9 hq9 hk9
  obtain ⟨⟨b0, b1, b2, b3, b4, b5, b6, b7, b8, b9, b10, b11⟩, bf⟩ := cells12 hq9
  refine bodyPost_ret (v := NV 0 0 nul .z .z (.slice none 0 0)) (by simp [results, Tryz.results70, go_sem, b0, b1, b2, b3, b4, b5, b6, b7, b8, b9, b10, b11]) rfl ?_
  have hP9 := hP3.keep hk9 (fun e => hrp e.symm)
  have hK9 := hKw3.trans hk9 (fun n e => by right; rw [HRB.out, e]; exact Nat.le_refl _)
  exact ⟨_, _, t.e, rfl, Nd.leaf, hP9, hte, by omega, hK9⟩
set_option maxRecDepth 100000 in
set_option maxHeartbeats 8000000 in
theorem rone_sign (pb k d : Nat) (wr : Int) (s : ByteArray) (hs : s.size ≤ 200) (w : World) (h : PD w pb s k wr 0 d) (hk : k ≤ s.size) (t : Tk) (ht : tkR s k = t) (hc : t.kind = 4) (h1 : (t.t.toList == [45]) = false) (h2 : (t.t.toList == [40]) = false) :
    Calls Tryz.prog 70 #[ptr pb] w (OutR w pb s d wr (.err t.a 2)) := by
  have hte : t.e ≤ s.size := ht ▸ (tk_spec s k hk).2.2
  have HT : Hid (∀ w, Calls Tryz.prog 54 #[.string s, .int .i64 k] w fun e w' => e = .returned (KV (tkR s k).kind ((tkR s k).a : Nat) ((tkR s k).e : Nat) (tkR s k).t) ∧ Below w.heap.size w w') := fun w => token_at s k w hs hk
  rw [ht] at HT
  clear ht
  have HHC : Hid (t.kind = 4) := hc
  clear hc
  go_enter Tryz.func70, Tryz.ntmps70
  go_upto_region 1 with fail
  have h0 : PD (w.alloc (.cells NZ 77)) pb s k wr 0 d := h.below ((Below.refl _ _).alloc (Nat.le_refl _) _)
  have hr : (w.alloc (.cells NZ 77)).heap[w.heap.size]? = some (.cells NZ 77 (0, 0)) := blk_new _ _
  have hK0 : Kp (· = pb) w (w.alloc (.cells NZ 77)) := (Kp.refl _ w).alloc _
  have hlt := h.lt
  have hrl : w.heap.size < (w.alloc (.cells NZ 77)).heap.size := by simp
  obtain ⟨rb, hrb⟩ : ∃ rb, w.heap.size = rb := ⟨_, rfl⟩
  rw [hrb] at hr hrl hlt ⊢
  have HRB : Hid (w.heap.size = rb) := hrb
  clear hrb
  generalize w.alloc (.cells NZ 77) = w0 at *
  obtain ⟨⟨c0, c1, c2, c3, c4⟩, f0, f1, f2, f3, f4⟩ := h0.cells
  have hrp : rb ≠ pb := by omega
  go_cut [3] (fun s3 wx => ∃ kb, s3 = ptr kb ∧ KS w0 t kb wx)
  case first =>
    have hlt0 := h0.lt
    have hne : w0.heap.size ≠ pb := by omega
    have hne' : pb ≠ w0.heap.size := by omega
    have KK : Hid (∀ wx, Below w0.heap.size w0 wx → wx.cell? ⟨pb, 0, none⟩ = some (.string s) ∧ wx.cell? ⟨pb, 1, none⟩ = some (.int .i64 k)) := fun wx hb => ⟨(hb.cell (p := ⟨pb, 0, none⟩) hlt0).trans c0, (hb.cell (p := ⟨pb, 1, none⟩) hlt0).trans c1⟩
    clear c0 c1 c2 c3 c4 f0 f1 f2 f3 f4
    go_region_held3 (fun wx => wx.cell? ⟨pb, 0, none⟩ = some (.string s) ∧ wx.cell? ⟨pb, 1, none⟩ = some (.int .i64 k)) (exact KK.out _ (by (repeat (first | exact Below.refl _ _ | assumption | (refine Below.setCell ?_ (by first | exact Nat.le_refl _ | omega) _) | (refine Below.alloc ?_ (by first | exact Nat.le_refl _ | exact hb'.size | omega | (simp <;> omega)) _) | (refine Below.drew ?_))))) ((go_at_call 54; refine (HT.out _).mono ?_; rintro e w1 ⟨rfl, hb⟩; have hb' : Below w0.heap.size w0 w1 := (by first | exact kb1 hb | exact kb2 hb); first | (have hz := kz_a hb; have hz4 := cells4f hz; obtain ⟨⟨z0, z1, z2, z3⟩, y0, y1, y2, y3⟩ := hz4) | skip))
    all_goals
      go_wp2_with fail
      go_meet
      case rel => first | exact ⟨_, rfl, ks3 hb⟩ | exact ks2 hb (Q := fun W => ∃ kb, _ = ptr kb ∧ KS w0 t kb W) (fun w2 h2 => ⟨_, rfl, h2⟩)
  case rest =>
  obtain ⟨kb, rfl, hS⟩ := hcut
  clear c0 c1 c2 c3 c4 f0 f1 f2 f3 f4 HT
  have hlo := hS.lo
  have hne : kb ≠ pb := by have := h0.lt; omega
  have hner : kb ≠ rb := by omega
  have hP : PD wc pb s k wr 0 d := h0.below hS.below
  obtain ⟨⟨c0, c1, c2, c3, c4⟩, f0, f1, f2, f3, f4⟩ := hP.cells
  obtain ⟨⟨z0, z1, z2, z3⟩, y0, y1, y2, y3⟩ := cells4f hS.blk
  have hKx : Kp (· = pb) w wc := hK0.below hS.below
  have hrc : wc.heap[rb]? = some (.cells NZ 77 (0, 0)) := by rw [hS.below.block rb hrl]; exact hr
  have hPe := hP.setAt t.e
  have hKe : Kp (· = pb) wc (wc.setCell ⟨pb, 1, none⟩ (.int .i64 t.e)) := kpset _ _ _ _
  have hrce := hKe.blk hrc hrp
  have hkbe := hKe.blk hS.blk hne
  have hKw := hKx.trans hKe (fun n e => .inl e)
  rw [HHC.out] at z0
  go_wp2_with fail
  go_at_call 55
  refine (fail_first pb t.e d wr s t.a 2 _ hPe).mono ?_
  rintro e w3 ⟨rfl, hP3, hK3⟩
  have hr3 := hK3.blk hrce hrp
  have hKw3 := hKw.trans hK3 (fun n e => .inl e)
  clear c0 c1 c2 c3 c4 f0 f1 f2 f3 f4 z0 z1 z2 z3 y0 y1 y2 y3
  obtain ⟨⟨d0, d1, d2, d3, d4, d5, d6, d7, d8, d9, d10, d11⟩, df⟩ := cells12 hr3
  go_wp2_with fail
  clear d0 d1 d2 d3 d4 d5 d6 d7 d8 d9 d10 d11 df
  refine fin12 hr3 (Q := bodyPost _ _ _ _ _) ?_
  intro w9 hq9 hk9
  obtain ⟨⟨b0, b1, b2, b3, b4, b5, b6, b7, b8, b9, b10, b11⟩, bf⟩ := cells12 hq9
  refine bodyPost_ret (v := NV 0 0 nul .z .z (.slice none 0 0)) (by simp [results, Tryz.results70, go_sem, b0, b1, b2, b3, b4, b5, b6, b7, b8, b9, b10, b11]) rfl ?_
  have hP9 := hP3.keep hk9 (fun e => hrp e.symm)
  have hK9 := hKw3.trans hk9 (fun n e => by right; rw [HRB.out, e]; exact Nat.le_refl _)
  exact ⟨_, _, t.e, rfl, Nd.leaf, hP9, hte, by omega, hK9⟩
end Go.Proofs.YtomgjjngkffbbaaGreatDoor.fm

/- The reference's Named: which texts are truths, or bad. Condition: none. -/
namespace Go.Proofs.YtomgjjngkffbbaaGreatDoor
open Go.RowKit
theorem rbad_any (n : Int) (w : World) :
    Calls Tryz.prog 123 #[.int .i64 n] w fun e w' => e = .returned (V 4 n nul) ∧ Below w.heap.size w w' := by
  go_enter Tryz.func123, Tryz.ntmps123
  go_wp2
  exact bodyPost_ret (v := V 4 n nul) (by simp [results, Tryz.results123, go_sem]) rfl ⟨rfl, (Below.refl _ _).alloc (Nat.le_refl _) _⟩
/-- The texts of what is bad, in a row of their own. -/
def wrongsC : Array Value := #[.string nul, .string bt0, .string bt1, .string bt2, .string bt3, .string bt4, .string bt5]
theorem wrongs_any (w : World) :
    Calls Tryz.prog 74 #[] w fun e w' => e = .returned (.slice (some ⟨w.heap.size, 0, none⟩) 7 7) ∧ w' = w.alloc (.cells wrongsC 9) := by
  go_enter Tryz.func74, Tryz.ntmps74
  go_wp2
  go_ret
  exact ⟨rfl, rfl⟩
theorem wrongs_cell (w : World) : (w.alloc (.cells wrongsC 9)).cell? ⟨w.heap.size, 1, none⟩ = some (.string bt0) ∧ (w.alloc (.cells wrongsC 9)).cell? ⟨w.heap.size, 2, none⟩ = some (.string bt1) ∧ (w.alloc (.cells wrongsC 9)).cell? ⟨w.heap.size, 3, none⟩ = some (.string bt2) ∧ (w.alloc (.cells wrongsC 9)).cell? ⟨w.heap.size, 4, none⟩ = some (.string bt3) ∧ (w.alloc (.cells wrongsC 9)).cell? ⟨w.heap.size, 5, none⟩ = some (.string bt4) ∧ (w.alloc (.cells wrongsC 9)).cell? ⟨w.heap.size, 6, none⟩ = some (.string bt5) := by
  refine ⟨?_, ?_, ?_, ?_, ?_, ?_⟩ <;> simp [wrongsC]
set_option maxRecDepth 100000 in
set_option maxHeartbeats 2000000 in
theorem named_0 (s : ByteArray) (w : World) (ht : (s.toList == [84, 82, 85, 69]) = false) (hf0 : (s.toList == [70, 65, 76, 83, 69]) = false) (h0 : (s.toList == [35, 68, 73, 86, 33]) = true) :
    Calls Tryz.prog 96 #[.string s] w fun e w' => e = .returned (.tuple #[V 4 1 nul, .bool true]) ∧ Below w.heap.size w w' := by
  have g0 : ([35, 68, 73, 86, 33] == s.toList) = true := by rw [Bool.beq_comm]; exact h0
  have hC := Cell3.start w 157
  have hwc := wrongs_cell (w.alloc (.cells #[.int .i64 0, .int .i64 0, .string nul] 157))
  have bw : Below (w.alloc (.cells #[.int .i64 0, .int .i64 0, .string nul] 157)).heap.size (w.alloc (.cells #[.int .i64 0, .int .i64 0, .string nul] 157)) ((w.alloc (.cells #[.int .i64 0, .int .i64 0, .string nul] 157)).alloc (.cells wrongsC 9)) := (Below.refl _ _).alloc (Nat.le_refl _) _
  replace hC := hC.next bw
  go_enter Tryz.func96, Tryz.ntmps96
  go_wp2_with fail
  refine (wrongs_any _).mono ?_
  rintro e w1 ⟨rfl, rfl⟩
  generalize ((w.alloc (.cells #[.int .i64 0, .int .i64 0, .string nul] 157)).alloc (.cells wrongsC 9)) = W at *
  generalize (w.alloc (.cells #[.int .i64 0, .int .i64 0, .string nul] 157)).heap.size = bw0 at *
  clear bw
  obtain ⟨k1, k2, k3, k4, k5, k6⟩ := hwc
  go_wp2_with fail
  refine wp_loop_rounds 7 ?_
  iterate 1 (rw [rounds_succ]; go_wp2_with fail)
  refine (rbad_any _ _).mono ?_
  rintro e w2 ⟨rfl, b2⟩
  replace hC := hC.next b2
  obtain ⟨⟨_, hf⟩, ⟨_, c0, c1, c2⟩, hB, hle⟩ := hC
  go_wp2_with fail
  exact bodyPost_ret (v := .tuple #[V 4 1 nul, .bool true]) (by simp [results, Tryz.results96, go_sem, c0, c1, c2]) rfl ⟨rfl, by (repeat (first | exact Below.refl _ _ | assumption | (refine Below.setCell ?_ (by first | omega | (simp <;> omega)) _) | (refine Below.alloc ?_ (by first | omega | (simp <;> omega)) _) | (refine Below.drew ?_) | (refine Below.trans ?_ (Below.mono (by assumption) (by first | omega | (simp <;> omega))))))⟩
set_option maxRecDepth 100000 in
set_option maxHeartbeats 2000000 in
theorem named_1 (s : ByteArray) (w : World) (ht : (s.toList == [84, 82, 85, 69]) = false) (hf0 : (s.toList == [70, 65, 76, 83, 69]) = false) (h0 : (s.toList == [35, 68, 73, 86, 33]) = false) (h1 : (s.toList == [35, 86, 65, 76, 85, 69, 33]) = true) :
    Calls Tryz.prog 96 #[.string s] w fun e w' => e = .returned (.tuple #[V 4 2 nul, .bool true]) ∧ Below w.heap.size w w' := by
  have g0 : ([35, 68, 73, 86, 33] == s.toList) = false := by rw [Bool.beq_comm]; exact h0
  have g1 : ([35, 86, 65, 76, 85, 69, 33] == s.toList) = true := by rw [Bool.beq_comm]; exact h1
  have hC := Cell3.start w 157
  have hwc := wrongs_cell (w.alloc (.cells #[.int .i64 0, .int .i64 0, .string nul] 157))
  have bw : Below (w.alloc (.cells #[.int .i64 0, .int .i64 0, .string nul] 157)).heap.size (w.alloc (.cells #[.int .i64 0, .int .i64 0, .string nul] 157)) ((w.alloc (.cells #[.int .i64 0, .int .i64 0, .string nul] 157)).alloc (.cells wrongsC 9)) := (Below.refl _ _).alloc (Nat.le_refl _) _
  replace hC := hC.next bw
  go_enter Tryz.func96, Tryz.ntmps96
  go_wp2_with fail
  refine (wrongs_any _).mono ?_
  rintro e w1 ⟨rfl, rfl⟩
  generalize ((w.alloc (.cells #[.int .i64 0, .int .i64 0, .string nul] 157)).alloc (.cells wrongsC 9)) = W at *
  generalize (w.alloc (.cells #[.int .i64 0, .int .i64 0, .string nul] 157)).heap.size = bw0 at *
  clear bw
  obtain ⟨k1, k2, k3, k4, k5, k6⟩ := hwc
  go_wp2_with fail
  refine wp_loop_rounds 7 ?_
  iterate 2 (rw [rounds_succ]; go_wp2_with fail)
  refine (rbad_any _ _).mono ?_
  rintro e w2 ⟨rfl, b2⟩
  replace hC := hC.next b2
  obtain ⟨⟨_, hf⟩, ⟨_, c0, c1, c2⟩, hB, hle⟩ := hC
  go_wp2_with fail
  exact bodyPost_ret (v := .tuple #[V 4 2 nul, .bool true]) (by simp [results, Tryz.results96, go_sem, c0, c1, c2]) rfl ⟨rfl, by (repeat (first | exact Below.refl _ _ | assumption | (refine Below.setCell ?_ (by first | omega | (simp <;> omega)) _) | (refine Below.alloc ?_ (by first | omega | (simp <;> omega)) _) | (refine Below.drew ?_) | (refine Below.trans ?_ (Below.mono (by assumption) (by first | omega | (simp <;> omega))))))⟩
set_option maxRecDepth 100000 in
set_option maxHeartbeats 2000000 in
theorem named_2 (s : ByteArray) (w : World) (ht : (s.toList == [84, 82, 85, 69]) = false) (hf0 : (s.toList == [70, 65, 76, 83, 69]) = false) (h0 : (s.toList == [35, 68, 73, 86, 33]) = false) (h1 : (s.toList == [35, 86, 65, 76, 85, 69, 33]) = false) (h2 : (s.toList == [35, 82, 69, 70, 33]) = true) :
    Calls Tryz.prog 96 #[.string s] w fun e w' => e = .returned (.tuple #[V 4 3 nul, .bool true]) ∧ Below w.heap.size w w' := by
  have g0 : ([35, 68, 73, 86, 33] == s.toList) = false := by rw [Bool.beq_comm]; exact h0
  have g1 : ([35, 86, 65, 76, 85, 69, 33] == s.toList) = false := by rw [Bool.beq_comm]; exact h1
  have g2 : ([35, 82, 69, 70, 33] == s.toList) = true := by rw [Bool.beq_comm]; exact h2
  have hC := Cell3.start w 157
  have hwc := wrongs_cell (w.alloc (.cells #[.int .i64 0, .int .i64 0, .string nul] 157))
  have bw : Below (w.alloc (.cells #[.int .i64 0, .int .i64 0, .string nul] 157)).heap.size (w.alloc (.cells #[.int .i64 0, .int .i64 0, .string nul] 157)) ((w.alloc (.cells #[.int .i64 0, .int .i64 0, .string nul] 157)).alloc (.cells wrongsC 9)) := (Below.refl _ _).alloc (Nat.le_refl _) _
  replace hC := hC.next bw
  go_enter Tryz.func96, Tryz.ntmps96
  go_wp2_with fail
  refine (wrongs_any _).mono ?_
  rintro e w1 ⟨rfl, rfl⟩
  generalize ((w.alloc (.cells #[.int .i64 0, .int .i64 0, .string nul] 157)).alloc (.cells wrongsC 9)) = W at *
  generalize (w.alloc (.cells #[.int .i64 0, .int .i64 0, .string nul] 157)).heap.size = bw0 at *
  clear bw
  obtain ⟨k1, k2, k3, k4, k5, k6⟩ := hwc
  go_wp2_with fail
  refine wp_loop_rounds 7 ?_
  iterate 3 (rw [rounds_succ]; go_wp2_with fail)
  refine (rbad_any _ _).mono ?_
  rintro e w2 ⟨rfl, b2⟩
  replace hC := hC.next b2
  obtain ⟨⟨_, hf⟩, ⟨_, c0, c1, c2⟩, hB, hle⟩ := hC
  go_wp2_with fail
  exact bodyPost_ret (v := .tuple #[V 4 3 nul, .bool true]) (by simp [results, Tryz.results96, go_sem, c0, c1, c2]) rfl ⟨rfl, by (repeat (first | exact Below.refl _ _ | assumption | (refine Below.setCell ?_ (by first | omega | (simp <;> omega)) _) | (refine Below.alloc ?_ (by first | omega | (simp <;> omega)) _) | (refine Below.drew ?_) | (refine Below.trans ?_ (Below.mono (by assumption) (by first | omega | (simp <;> omega))))))⟩
set_option maxRecDepth 100000 in
set_option maxHeartbeats 2000000 in
theorem named_3 (s : ByteArray) (w : World) (ht : (s.toList == [84, 82, 85, 69]) = false) (hf0 : (s.toList == [70, 65, 76, 83, 69]) = false) (h0 : (s.toList == [35, 68, 73, 86, 33]) = false) (h1 : (s.toList == [35, 86, 65, 76, 85, 69, 33]) = false) (h2 : (s.toList == [35, 82, 69, 70, 33]) = false) (h3 : (s.toList == [35, 78, 65, 77, 69, 33]) = true) :
    Calls Tryz.prog 96 #[.string s] w fun e w' => e = .returned (.tuple #[V 4 4 nul, .bool true]) ∧ Below w.heap.size w w' := by
  have g0 : ([35, 68, 73, 86, 33] == s.toList) = false := by rw [Bool.beq_comm]; exact h0
  have g1 : ([35, 86, 65, 76, 85, 69, 33] == s.toList) = false := by rw [Bool.beq_comm]; exact h1
  have g2 : ([35, 82, 69, 70, 33] == s.toList) = false := by rw [Bool.beq_comm]; exact h2
  have g3 : ([35, 78, 65, 77, 69, 33] == s.toList) = true := by rw [Bool.beq_comm]; exact h3
  have hC := Cell3.start w 157
  have hwc := wrongs_cell (w.alloc (.cells #[.int .i64 0, .int .i64 0, .string nul] 157))
  have bw : Below (w.alloc (.cells #[.int .i64 0, .int .i64 0, .string nul] 157)).heap.size (w.alloc (.cells #[.int .i64 0, .int .i64 0, .string nul] 157)) ((w.alloc (.cells #[.int .i64 0, .int .i64 0, .string nul] 157)).alloc (.cells wrongsC 9)) := (Below.refl _ _).alloc (Nat.le_refl _) _
  replace hC := hC.next bw
  go_enter Tryz.func96, Tryz.ntmps96
  go_wp2_with fail
  refine (wrongs_any _).mono ?_
  rintro e w1 ⟨rfl, rfl⟩
  generalize ((w.alloc (.cells #[.int .i64 0, .int .i64 0, .string nul] 157)).alloc (.cells wrongsC 9)) = W at *
  generalize (w.alloc (.cells #[.int .i64 0, .int .i64 0, .string nul] 157)).heap.size = bw0 at *
  clear bw
  obtain ⟨k1, k2, k3, k4, k5, k6⟩ := hwc
  go_wp2_with fail
  refine wp_loop_rounds 7 ?_
  iterate 4 (rw [rounds_succ]; go_wp2_with fail)
  refine (rbad_any _ _).mono ?_
  rintro e w2 ⟨rfl, b2⟩
  replace hC := hC.next b2
  obtain ⟨⟨_, hf⟩, ⟨_, c0, c1, c2⟩, hB, hle⟩ := hC
  go_wp2_with fail
  exact bodyPost_ret (v := .tuple #[V 4 4 nul, .bool true]) (by simp [results, Tryz.results96, go_sem, c0, c1, c2]) rfl ⟨rfl, by (repeat (first | exact Below.refl _ _ | assumption | (refine Below.setCell ?_ (by first | omega | (simp <;> omega)) _) | (refine Below.alloc ?_ (by first | omega | (simp <;> omega)) _) | (refine Below.drew ?_) | (refine Below.trans ?_ (Below.mono (by assumption) (by first | omega | (simp <;> omega))))))⟩
set_option maxRecDepth 100000 in
set_option maxHeartbeats 2000000 in
theorem named_4 (s : ByteArray) (w : World) (ht : (s.toList == [84, 82, 85, 69]) = false) (hf0 : (s.toList == [70, 65, 76, 83, 69]) = false) (h0 : (s.toList == [35, 68, 73, 86, 33]) = false) (h1 : (s.toList == [35, 86, 65, 76, 85, 69, 33]) = false) (h2 : (s.toList == [35, 82, 69, 70, 33]) = false) (h3 : (s.toList == [35, 78, 65, 77, 69, 33]) = false) (h4 : (s.toList == [35, 78, 85, 77, 33]) = true) :
    Calls Tryz.prog 96 #[.string s] w fun e w' => e = .returned (.tuple #[V 4 5 nul, .bool true]) ∧ Below w.heap.size w w' := by
  have g0 : ([35, 68, 73, 86, 33] == s.toList) = false := by rw [Bool.beq_comm]; exact h0
  have g1 : ([35, 86, 65, 76, 85, 69, 33] == s.toList) = false := by rw [Bool.beq_comm]; exact h1
  have g2 : ([35, 82, 69, 70, 33] == s.toList) = false := by rw [Bool.beq_comm]; exact h2
  have g3 : ([35, 78, 65, 77, 69, 33] == s.toList) = false := by rw [Bool.beq_comm]; exact h3
  have g4 : ([35, 78, 85, 77, 33] == s.toList) = true := by rw [Bool.beq_comm]; exact h4
  have hC := Cell3.start w 157
  have hwc := wrongs_cell (w.alloc (.cells #[.int .i64 0, .int .i64 0, .string nul] 157))
  have bw : Below (w.alloc (.cells #[.int .i64 0, .int .i64 0, .string nul] 157)).heap.size (w.alloc (.cells #[.int .i64 0, .int .i64 0, .string nul] 157)) ((w.alloc (.cells #[.int .i64 0, .int .i64 0, .string nul] 157)).alloc (.cells wrongsC 9)) := (Below.refl _ _).alloc (Nat.le_refl _) _
  replace hC := hC.next bw
  go_enter Tryz.func96, Tryz.ntmps96
  go_wp2_with fail
  refine (wrongs_any _).mono ?_
  rintro e w1 ⟨rfl, rfl⟩
  generalize ((w.alloc (.cells #[.int .i64 0, .int .i64 0, .string nul] 157)).alloc (.cells wrongsC 9)) = W at *
  generalize (w.alloc (.cells #[.int .i64 0, .int .i64 0, .string nul] 157)).heap.size = bw0 at *
  clear bw
  obtain ⟨k1, k2, k3, k4, k5, k6⟩ := hwc
  go_wp2_with fail
  refine wp_loop_rounds 7 ?_
  iterate 5 (rw [rounds_succ]; go_wp2_with fail)
  refine (rbad_any _ _).mono ?_
  rintro e w2 ⟨rfl, b2⟩
  replace hC := hC.next b2
  obtain ⟨⟨_, hf⟩, ⟨_, c0, c1, c2⟩, hB, hle⟩ := hC
  go_wp2_with fail
  exact bodyPost_ret (v := .tuple #[V 4 5 nul, .bool true]) (by simp [results, Tryz.results96, go_sem, c0, c1, c2]) rfl ⟨rfl, by (repeat (first | exact Below.refl _ _ | assumption | (refine Below.setCell ?_ (by first | omega | (simp <;> omega)) _) | (refine Below.alloc ?_ (by first | omega | (simp <;> omega)) _) | (refine Below.drew ?_) | (refine Below.trans ?_ (Below.mono (by assumption) (by first | omega | (simp <;> omega))))))⟩
set_option maxRecDepth 100000 in
set_option maxHeartbeats 2000000 in
theorem named_5 (s : ByteArray) (w : World) (ht : (s.toList == [84, 82, 85, 69]) = false) (hf0 : (s.toList == [70, 65, 76, 83, 69]) = false) (h0 : (s.toList == [35, 68, 73, 86, 33]) = false) (h1 : (s.toList == [35, 86, 65, 76, 85, 69, 33]) = false) (h2 : (s.toList == [35, 82, 69, 70, 33]) = false) (h3 : (s.toList == [35, 78, 65, 77, 69, 33]) = false) (h4 : (s.toList == [35, 78, 85, 77, 33]) = false) (h5 : (s.toList == [35, 78, 79, 78, 69, 33]) = true) :
    Calls Tryz.prog 96 #[.string s] w fun e w' => e = .returned (.tuple #[V 4 6 nul, .bool true]) ∧ Below w.heap.size w w' := by
  have g0 : ([35, 68, 73, 86, 33] == s.toList) = false := by rw [Bool.beq_comm]; exact h0
  have g1 : ([35, 86, 65, 76, 85, 69, 33] == s.toList) = false := by rw [Bool.beq_comm]; exact h1
  have g2 : ([35, 82, 69, 70, 33] == s.toList) = false := by rw [Bool.beq_comm]; exact h2
  have g3 : ([35, 78, 65, 77, 69, 33] == s.toList) = false := by rw [Bool.beq_comm]; exact h3
  have g4 : ([35, 78, 85, 77, 33] == s.toList) = false := by rw [Bool.beq_comm]; exact h4
  have g5 : ([35, 78, 79, 78, 69, 33] == s.toList) = true := by rw [Bool.beq_comm]; exact h5
  have hC := Cell3.start w 157
  have hwc := wrongs_cell (w.alloc (.cells #[.int .i64 0, .int .i64 0, .string nul] 157))
  have bw : Below (w.alloc (.cells #[.int .i64 0, .int .i64 0, .string nul] 157)).heap.size (w.alloc (.cells #[.int .i64 0, .int .i64 0, .string nul] 157)) ((w.alloc (.cells #[.int .i64 0, .int .i64 0, .string nul] 157)).alloc (.cells wrongsC 9)) := (Below.refl _ _).alloc (Nat.le_refl _) _
  replace hC := hC.next bw
  go_enter Tryz.func96, Tryz.ntmps96
  go_wp2_with fail
  refine (wrongs_any _).mono ?_
  rintro e w1 ⟨rfl, rfl⟩
  generalize ((w.alloc (.cells #[.int .i64 0, .int .i64 0, .string nul] 157)).alloc (.cells wrongsC 9)) = W at *
  generalize (w.alloc (.cells #[.int .i64 0, .int .i64 0, .string nul] 157)).heap.size = bw0 at *
  clear bw
  obtain ⟨k1, k2, k3, k4, k5, k6⟩ := hwc
  go_wp2_with fail
  refine wp_loop_rounds 7 ?_
  iterate 6 (rw [rounds_succ]; go_wp2_with fail)
  refine (rbad_any _ _).mono ?_
  rintro e w2 ⟨rfl, b2⟩
  replace hC := hC.next b2
  obtain ⟨⟨_, hf⟩, ⟨_, c0, c1, c2⟩, hB, hle⟩ := hC
  go_wp2_with fail
  exact bodyPost_ret (v := .tuple #[V 4 6 nul, .bool true]) (by simp [results, Tryz.results96, go_sem, c0, c1, c2]) rfl ⟨rfl, by (repeat (first | exact Below.refl _ _ | assumption | (refine Below.setCell ?_ (by first | omega | (simp <;> omega)) _) | (refine Below.alloc ?_ (by first | omega | (simp <;> omega)) _) | (refine Below.drew ?_) | (refine Below.trans ?_ (Below.mono (by assumption) (by first | omega | (simp <;> omega))))))⟩
end Go.Proofs.YtomgjjngkffbbaaGreatDoor
/- The reference's One at what is bad. Condition: the place lies in the text, which has at most 200 bytes. -/
namespace Go.Proofs.YtomgjjngkffbbaaGreatDoor.fm
open Go.RowKit
theorem named_bad (n : Nat) (h1 : 1 ≤ n) (h6 : n ≤ 6) (w : World) : Calls Tryz.prog 96 #[.string (sh 4 (n : Nat) YtomgjjngkffbbaaGreatDoor.nul)] w fun e w' => e = .returned (.tuple #[V 4 (n : Nat) YtomgjjngkffbbaaGreatDoor.nul, .bool true]) ∧ Below w.heap.size w w' := by
  match n, h1, h6 with
  | 1, _, _ => exact named_0 _ w (by decide +kernel) (by decide +kernel) (by decide +kernel)
  | 2, _, _ => exact named_1 _ w (by decide +kernel) (by decide +kernel) (by decide +kernel) (by decide +kernel)
  | 3, _, _ => exact named_2 _ w (by decide +kernel) (by decide +kernel) (by decide +kernel) (by decide +kernel) (by decide +kernel)
  | 4, _, _ => exact named_3 _ w (by decide +kernel) (by decide +kernel) (by decide +kernel) (by decide +kernel) (by decide +kernel) (by decide +kernel)
  | 5, _, _ => exact named_4 _ w (by decide +kernel) (by decide +kernel) (by decide +kernel) (by decide +kernel) (by decide +kernel) (by decide +kernel) (by decide +kernel)
  | 6, _, _ => exact named_5 _ w (by decide +kernel) (by decide +kernel) (by decide +kernel) (by decide +kernel) (by decide +kernel) (by decide +kernel) (by decide +kernel) (by decide +kernel)
  | n + 7, _, h6 => omega
set_option maxRecDepth 100000 in
set_option maxHeartbeats 8000000 in
theorem rone_bad (pb k d : Nat) (wr : Int) (s : ByteArray) (hs : s.size ≤ 200) (w : World) (h : PD w pb s k wr 0 d) (hk : k ≤ s.size) (t : Tk) (ht : tkR s k = t) (hc : t.kind = 3) (n : Nat) (h1 : 1 ≤ n) (h6 : n ≤ 6) (hn : t.t = sh 4 (n : Nat) YtomgjjngkffbbaaGreatDoor.nul) :
    Calls Tryz.prog 70 #[ptr pb] w (OutR w pb s d wr (.ok (tBad n) t.e)) := by
  have hte : t.e ≤ s.size := ht ▸ (tk_spec s k hk).2.2
  have HT : Hid (∀ w, Calls Tryz.prog 54 #[.string s, .int .i64 k] w fun e w' => e = .returned (KV (tkR s k).kind ((tkR s k).a : Nat) ((tkR s k).e : Nat) (tkR s k).t) ∧ Below w.heap.size w w') := fun w => token_at s k w hs hk
  rw [ht] at HT
  clear ht
  have HHC : Hid (t.kind = 3) := hc
  clear hc
  have HNB : Hid (∀ w, Calls Tryz.prog 96 #[.string t.t] w fun e w' => e = .returned (.tuple #[V 4 (n : Nat) YtomgjjngkffbbaaGreatDoor.nul, .bool true]) ∧ Below w.heap.size w w') := fun w => by rw [hn]; exact named_bad n h1 h6 w
  clear hn h1 h6
  go_enter Tryz.func70, Tryz.ntmps70
  go_upto_region 1 with fail
  have h0 : PD (w.alloc (.cells NZ 77)) pb s k wr 0 d := h.below ((Below.refl _ _).alloc (Nat.le_refl _) _)
  have hr : (w.alloc (.cells NZ 77)).heap[w.heap.size]? = some (.cells NZ 77 (0, 0)) := blk_new _ _
  have hK0 : Kp (· = pb) w (w.alloc (.cells NZ 77)) := (Kp.refl _ w).alloc _
  have hlt := h.lt
  have hrl : w.heap.size < (w.alloc (.cells NZ 77)).heap.size := by simp
  obtain ⟨rb, hrb⟩ : ∃ rb, w.heap.size = rb := ⟨_, rfl⟩
  rw [hrb] at hr hrl hlt ⊢
  have HRB : Hid (w.heap.size = rb) := hrb
  clear hrb
  generalize w.alloc (.cells NZ 77) = w0 at *
  obtain ⟨⟨c0, c1, c2, c3, c4⟩, f0, f1, f2, f3, f4⟩ := h0.cells
  have hrp : rb ≠ pb := by omega
  go_cut [3] (fun s3 wx => ∃ kb, s3 = ptr kb ∧ KS w0 t kb wx)
  case first =>
    have hlt0 := h0.lt
    have hne : w0.heap.size ≠ pb := by omega
    have hne' : pb ≠ w0.heap.size := by omega
    have KK : Hid (∀ wx, Below w0.heap.size w0 wx → wx.cell? ⟨pb, 0, none⟩ = some (.string s) ∧ wx.cell? ⟨pb, 1, none⟩ = some (.int .i64 k)) := fun wx hb => ⟨(hb.cell (p := ⟨pb, 0, none⟩) hlt0).trans c0, (hb.cell (p := ⟨pb, 1, none⟩) hlt0).trans c1⟩
    clear c0 c1 c2 c3 c4 f0 f1 f2 f3 f4
    go_region_held3 (fun wx => wx.cell? ⟨pb, 0, none⟩ = some (.string s) ∧ wx.cell? ⟨pb, 1, none⟩ = some (.int .i64 k)) (exact KK.out _ (by (repeat (first | exact Below.refl _ _ | assumption | (refine Below.setCell ?_ (by first | exact Nat.le_refl _ | omega) _) | (refine Below.alloc ?_ (by first | exact Nat.le_refl _ | exact hb'.size | omega | (simp <;> omega)) _) | (refine Below.drew ?_))))) ((go_at_call 54; refine (HT.out _).mono ?_; rintro e w1 ⟨rfl, hb⟩; have hb' : Below w0.heap.size w0 w1 := (by first | exact kb1 hb | exact kb2 hb); first | (have hz := kz_a hb; have hz4 := cells4f hz; obtain ⟨⟨z0, z1, z2, z3⟩, y0, y1, y2, y3⟩ := hz4) | skip))
    all_goals
      go_wp2_with fail
      go_meet
      case rel => first | exact ⟨_, rfl, ks3 hb⟩ | exact ks2 hb (Q := fun W => ∃ kb, _ = ptr kb ∧ KS w0 t kb W) (fun w2 h2 => ⟨_, rfl, h2⟩)
  case rest =>
  obtain ⟨kb, rfl, hS⟩ := hcut
  clear c0 c1 c2 c3 c4 f0 f1 f2 f3 f4 HT
  have hlo := hS.lo
  have hne : kb ≠ pb := by have := h0.lt; omega
  have hner : kb ≠ rb := by omega
  have hP : PD wc pb s k wr 0 d := h0.below hS.below
  obtain ⟨⟨c0, c1, c2, c3, c4⟩, f0, f1, f2, f3, f4⟩ := hP.cells
  obtain ⟨⟨z0, z1, z2, z3⟩, y0, y1, y2, y3⟩ := cells4f hS.blk
  have hKx : Kp (· = pb) w wc := hK0.below hS.below
  have hrc : wc.heap[rb]? = some (.cells NZ 77 (0, 0)) := by rw [hS.below.block rb hrl]; exact hr
  have hPe := hP.setAt t.e
  have hKe : Kp (· = pb) wc (wc.setCell ⟨pb, 1, none⟩ (.int .i64 t.e)) := kpset _ _ _ _
  have hrce := hKe.blk hrc hrp
  have hkbe := hKe.blk hS.blk hne
  have hKw := hKx.trans hKe (fun n e => .inl e)
  rw [HHC.out] at z0
  go_wp2_with fail
  go_at_call 96
  refine (HNB.out _).mono ?_
  rintro e w3 ⟨rfl, hb3⟩
  clear c0 c1 c2 c3 c4 f0 f1 f2 f3 f4 z0 z1 z2 z3 y0 y1 y2 y3
  have hr3 : w3.heap[rb]? = some (.cells NZ 77 (0, 0)) := by rw [hb3.block _ (lt_blk hrce)]; exact hrce
  have hr4 : (w3.alloc (.cells #[.int .i64 4, .int .i64 (n : Nat), .string YtomgjjngkffbbaaGreatDoor.nul] 157)).heap[rb]? = some (.cells NZ 77 (0, 0)) := by rw [Below.heap_alloc _ _ _ (lt_blk hr3)]; exact hr3
  have hP4 := (hPe.below hb3).below ((Below.refl w3.heap.size w3).alloc (Nat.le_refl _) (.cells #[.int .i64 4, .int .i64 (n : Nat), .string YtomgjjngkffbbaaGreatDoor.nul] 157))
  have hKw4 := (hKw.below hb3).alloc (.cells #[.int .i64 4, .int .i64 (n : Nat), .string YtomgjjngkffbbaaGreatDoor.nul] 157)
  obtain ⟨⟨d0, d1, d2, d3, d4, d5, d6, d7, d8, d9, d10, d11⟩, df⟩ := cells12 hr4
  go_wp2_with fail
  clear d0 d1 d2 d3 d4 d5 d6 d7 d8 d9 d10 d11 df
  refine fin12 hr4 (Q := bodyPost _ _ _ _ _) ?_
  intro w9 hq9 hk9
  obtain ⟨⟨b0, b1, b2, b3, b4, b5, b6, b7, b8, b9, b10, b11⟩, bf⟩ := cells12 hq9
  refine bodyPost_ret (v := NV 4 (n : Nat) nul .z .z (.slice none 0 0)) (by simp [results, Tryz.results70, go_sem, b0, b1, b2, b3, b4, b5, b6, b7, b8, b9, b10, b11]) rfl ?_
  have hP9 := hP4.keep hk9 (fun e => hrp e.symm)
  have hK9 := hKw4.trans hk9 (fun n e => by right; rw [HRB.out, e]; exact Nat.le_refl _)
  exact ⟨_, t.e, rfl, Nd.leaf, hP9, hte, rfl, hK9⟩
end Go.Proofs.YtomgjjngkffbbaaGreatDoor.fm

/- The reference's One at what is negative. Conditions: as each theorem says. -/
namespace Go.Proofs.YtomgjjngkffbbaaGreatDoor.fm
open Go.RowKit
set_option maxRecDepth 100000 in
set_option maxHeartbeats 8000000 in
theorem rone_neg_full (pb k d : Nat) (wr : Int) (s : ByteArray) (hs : s.size ≤ 200) (w : World) (h : PD w pb s k wr 0 d) (hk : k ≤ s.size) (t : Tk) (ht : tkR s k = t) (hc : t.kind = 4) (hx : (t.t.toList == [45]) = true) (hd : d = 30) :
    Calls Tryz.prog 70 #[ptr pb] w (OutR w pb s d wr (.err t.a 4)) := by
  have hte : t.e ≤ s.size := ht ▸ (tk_spec s k hk).2.2
  have HT : Hid (∀ w, Calls Tryz.prog 54 #[.string s, .int .i64 k] w fun e w' => e = .returned (KV (tkR s k).kind ((tkR s k).a : Nat) ((tkR s k).e : Nat) (tkR s k).t) ∧ Below w.heap.size w w') := fun w => token_at s k w hs hk
  rw [ht] at HT
  clear ht
  have HHC : Hid (t.kind = 4) := hc
  clear hc
  go_enter Tryz.func70, Tryz.ntmps70
  go_upto_region 1 with fail
  have h0 : PD (w.alloc (.cells NZ 77)) pb s k wr 0 d := h.below ((Below.refl _ _).alloc (Nat.le_refl _) _)
  have hr : (w.alloc (.cells NZ 77)).heap[w.heap.size]? = some (.cells NZ 77 (0, 0)) := blk_new _ _
  have hK0 : Kp (· = pb) w (w.alloc (.cells NZ 77)) := (Kp.refl _ w).alloc _
  have hlt := h.lt
  have hrl : w.heap.size < (w.alloc (.cells NZ 77)).heap.size := by simp
  obtain ⟨rb, hrb⟩ : ∃ rb, w.heap.size = rb := ⟨_, rfl⟩
  rw [hrb] at hr hrl hlt ⊢
  have HRB : Hid (w.heap.size = rb) := hrb
  clear hrb
  generalize w.alloc (.cells NZ 77) = w0 at *
  obtain ⟨⟨c0, c1, c2, c3, c4⟩, f0, f1, f2, f3, f4⟩ := h0.cells
  have hrp : rb ≠ pb := by omega
  go_cut [3] (fun s3 wx => ∃ kb, s3 = ptr kb ∧ KS w0 t kb wx)
  case first =>
    have hlt0 := h0.lt
    have hne : w0.heap.size ≠ pb := by omega
    have hne' : pb ≠ w0.heap.size := by omega
    have KK : Hid (∀ wx, Below w0.heap.size w0 wx → wx.cell? ⟨pb, 0, none⟩ = some (.string s) ∧ wx.cell? ⟨pb, 1, none⟩ = some (.int .i64 k)) := fun wx hb => ⟨(hb.cell (p := ⟨pb, 0, none⟩) hlt0).trans c0, (hb.cell (p := ⟨pb, 1, none⟩) hlt0).trans c1⟩
    clear c0 c1 c2 c3 c4 f0 f1 f2 f3 f4
    go_region_held3 (fun wx => wx.cell? ⟨pb, 0, none⟩ = some (.string s) ∧ wx.cell? ⟨pb, 1, none⟩ = some (.int .i64 k)) (exact KK.out _ (by (repeat (first | exact Below.refl _ _ | assumption | (refine Below.setCell ?_ (by first | exact Nat.le_refl _ | omega) _) | (refine Below.alloc ?_ (by first | exact Nat.le_refl _ | exact hb'.size | omega | (simp <;> omega)) _) | (refine Below.drew ?_))))) ((go_at_call 54; refine (HT.out _).mono ?_; rintro e w1 ⟨rfl, hb⟩; have hb' : Below w0.heap.size w0 w1 := (by first | exact kb1 hb | exact kb2 hb); first | (have hz := kz_a hb; have hz4 := cells4f hz; obtain ⟨⟨z0, z1, z2, z3⟩, y0, y1, y2, y3⟩ := hz4) | skip))
    all_goals
      go_wp2_with fail
      go_meet
      case rel => first | exact ⟨_, rfl, ks3 hb⟩ | exact ks2 hb (Q := fun W => ∃ kb, _ = ptr kb ∧ KS w0 t kb W) (fun w2 h2 => ⟨_, rfl, h2⟩)
  case rest =>
  obtain ⟨kb, rfl, hS⟩ := hcut
  clear c0 c1 c2 c3 c4 f0 f1 f2 f3 f4 HT
  have hlo := hS.lo
  have hne : kb ≠ pb := by have := h0.lt; omega
  have hner : kb ≠ rb := by omega
  have hP : PD wc pb s k wr 0 d := h0.below hS.below
  obtain ⟨⟨c0, c1, c2, c3, c4⟩, f0, f1, f2, f3, f4⟩ := hP.cells
  obtain ⟨⟨z0, z1, z2, z3⟩, y0, y1, y2, y3⟩ := cells4f hS.blk
  have hKx : Kp (· = pb) w wc := hK0.below hS.below
  have hrc : wc.heap[rb]? = some (.cells NZ 77 (0, 0)) := by rw [hS.below.block rb hrl]; exact hr
  have hPe := hP.setAt t.e
  have hKe : Kp (· = pb) wc (wc.setCell ⟨pb, 1, none⟩ (.int .i64 t.e)) := kpset _ _ _ _
  have hrce := hKe.blk hrc hrp
  have hkbe := hKe.blk hS.blk hne
  have hKw := hKx.trans hKe (fun n e => .inl e)
  rw [HHC.out] at z0
  go_wp2_with fail
  go_at_call 92
  subst hd
  refine (rdeeper_full pb t.e wr s t.a _ hPe).mono ?_
  rintro e w3 ⟨rfl, hP3, hK3⟩
  have hr3 := hK3.blk hrce hrp
  have hKw3 := hKw.trans hK3 (fun n e => .inl e)
  clear c0 c1 c2 c3 c4 f0 f1 f2 f3 f4 z0 z1 z2 z3 y0 y1 y2 y3
  obtain ⟨⟨d0, d1, d2, d3, d4, d5, d6, d7, d8, d9, d10, d11⟩, df⟩ := cells12 hr3
  go_wp2_with fail
  clear d0 d1 d2 d3 d4 d5 d6 d7 d8 d9 d10 d11 df
  refine fin12 hr3 (Q := bodyPost _ _ _ _ _) ?_
  intro w9 hq9 hk9
  obtain ⟨⟨b0, b1, b2, b3, b4, b5, b6, b7, b8, b9, b10, b11⟩, bf⟩ := cells12 hq9
  refine bodyPost_ret (v := NV 0 0 nul .z .z (.slice none 0 0)) (by simp [results, Tryz.results70, go_sem, b0, b1, b2, b3, b4, b5, b6, b7, b8, b9, b10, b11]) rfl ?_
  have hP9 := hP3.keep hk9 (fun e => hrp e.symm)
  have hK9 := hKw3.trans hk9 (fun n e => by right; rw [HRB.out, e]; exact Nat.le_refl _)
  exact ⟨_, _, t.e, rfl, Nd.leaf, hP9, hte, by omega, hK9⟩
set_option maxRecDepth 100000 in
set_option maxHeartbeats 8000000 in
theorem rone_neg (pb k d : Nat) (wr : Int) (s : ByteArray) (hs : s.size ≤ 200) (w : World) (h : PD w pb s k wr 0 d) (hk : k ≤ s.size) (t : Tk) (ht : tkR s k = t) (hc : t.kind = 4) (hx : (t.t.toList == [45]) = true) (hd : d < 30) (R : Rs T) (hrec : ∀ w1, PD w1 pb s t.e wr 0 (d + 1) → Calls Tryz.prog 70 #[ptr pb] w1 (OutR w1 pb s (d + 1) wr R)) :
    Calls Tryz.prog 70 #[ptr pb] w (OutR w pb s d wr (R.bind fun u k' => .ok (tNeg u) k')) := by
  have hte : t.e ≤ s.size := ht ▸ (tk_spec s k hk).2.2
  have HT : Hid (∀ w, Calls Tryz.prog 54 #[.string s, .int .i64 k] w fun e w' => e = .returned (KV (tkR s k).kind ((tkR s k).a : Nat) ((tkR s k).e : Nat) (tkR s k).t) ∧ Below w.heap.size w w') := fun w => token_at s k w hs hk
  rw [ht] at HT
  clear ht
  have HHC : Hid (t.kind = 4) := hc
  clear hc
  have HHREC : Hid (∀ w1, PD w1 pb s t.e wr 0 (d + 1) → Calls Tryz.prog 70 #[ptr pb] w1 (OutR w1 pb s (d + 1) wr R)) := hrec
  clear hrec
  go_enter Tryz.func70, Tryz.ntmps70
  go_upto_region 1 with fail
  have h0 : PD (w.alloc (.cells NZ 77)) pb s k wr 0 d := h.below ((Below.refl _ _).alloc (Nat.le_refl _) _)
  have hr : (w.alloc (.cells NZ 77)).heap[w.heap.size]? = some (.cells NZ 77 (0, 0)) := blk_new _ _
  have hK0 : Kp (· = pb) w (w.alloc (.cells NZ 77)) := (Kp.refl _ w).alloc _
  have hlt := h.lt
  have hrl : w.heap.size < (w.alloc (.cells NZ 77)).heap.size := by simp
  obtain ⟨rb, hrb⟩ : ∃ rb, w.heap.size = rb := ⟨_, rfl⟩
  rw [hrb] at hr hrl hlt ⊢
  have HRB : Hid (w.heap.size = rb) := hrb
  clear hrb
  generalize w.alloc (.cells NZ 77) = w0 at *
  obtain ⟨⟨c0, c1, c2, c3, c4⟩, f0, f1, f2, f3, f4⟩ := h0.cells
  have hrp : rb ≠ pb := by omega
  go_cut [3] (fun s3 wx => ∃ kb, s3 = ptr kb ∧ KS w0 t kb wx)
  case first =>
    have hlt0 := h0.lt
    have hne : w0.heap.size ≠ pb := by omega
    have hne' : pb ≠ w0.heap.size := by omega
    have KK : Hid (∀ wx, Below w0.heap.size w0 wx → wx.cell? ⟨pb, 0, none⟩ = some (.string s) ∧ wx.cell? ⟨pb, 1, none⟩ = some (.int .i64 k)) := fun wx hb => ⟨(hb.cell (p := ⟨pb, 0, none⟩) hlt0).trans c0, (hb.cell (p := ⟨pb, 1, none⟩) hlt0).trans c1⟩
    clear c0 c1 c2 c3 c4 f0 f1 f2 f3 f4
    go_region_held3 (fun wx => wx.cell? ⟨pb, 0, none⟩ = some (.string s) ∧ wx.cell? ⟨pb, 1, none⟩ = some (.int .i64 k)) (exact KK.out _ (by (repeat (first | exact Below.refl _ _ | assumption | (refine Below.setCell ?_ (by first | exact Nat.le_refl _ | omega) _) | (refine Below.alloc ?_ (by first | exact Nat.le_refl _ | exact hb'.size | omega | (simp <;> omega)) _) | (refine Below.drew ?_))))) ((go_at_call 54; refine (HT.out _).mono ?_; rintro e w1 ⟨rfl, hb⟩; have hb' : Below w0.heap.size w0 w1 := (by first | exact kb1 hb | exact kb2 hb); first | (have hz := kz_a hb; have hz4 := cells4f hz; obtain ⟨⟨z0, z1, z2, z3⟩, y0, y1, y2, y3⟩ := hz4) | skip))
    all_goals
      go_wp2_with fail
      go_meet
      case rel => first | exact ⟨_, rfl, ks3 hb⟩ | exact ks2 hb (Q := fun W => ∃ kb, _ = ptr kb ∧ KS w0 t kb W) (fun w2 h2 => ⟨_, rfl, h2⟩)
  case rest =>
  obtain ⟨kb, rfl, hS⟩ := hcut
  clear c0 c1 c2 c3 c4 f0 f1 f2 f3 f4 HT
  have hlo := hS.lo
  have hne : kb ≠ pb := by have := h0.lt; omega
  have hner : kb ≠ rb := by omega
  have hP : PD wc pb s k wr 0 d := h0.below hS.below
  obtain ⟨⟨c0, c1, c2, c3, c4⟩, f0, f1, f2, f3, f4⟩ := hP.cells
  obtain ⟨⟨z0, z1, z2, z3⟩, y0, y1, y2, y3⟩ := cells4f hS.blk
  have hKx : Kp (· = pb) w wc := hK0.below hS.below
  have hrc : wc.heap[rb]? = some (.cells NZ 77 (0, 0)) := by rw [hS.below.block rb hrl]; exact hr
  have hPe := hP.setAt t.e
  have hKe : Kp (· = pb) wc (wc.setCell ⟨pb, 1, none⟩ (.int .i64 t.e)) := kpset _ _ _ _
  have hrce := hKe.blk hrc hrp
  have hkbe := hKe.blk hS.blk hne
  have hKw := hKx.trans hKe (fun n e => .inl e)
  rw [HHC.out] at z0
  go_wp2_with fail
  go_at_call 92
  refine (rdeeper_go pb t.e d wr 0 s t.a _ hPe hd).mono ?_
  rintro e w3 ⟨rfl, hP3, hK3⟩
  have hr3 := hK3.blk hrce hrp
  have hKw3 := hKw.trans hK3 (fun n e => .inl e)
  have hsz3 := hKw3.size
  clear c0 c1 c2 c3 c4 f0 f1 f2 f3 f4 z0 z1 z2 z3 y0 y1 y2 y3
  go_wp2_with fail
  go_at_call 70
  refine (HHREC.out _ hP3).mono ?_
  intro e w4 ho
  obtain ⟨a1, n1, s1, r1, t1, p1, m1, e1, u, j, wr', bd, rfl, hN, hP4, hj, hK4, hX⟩ := ho.open
  have HX2 : Hid _ := hX
  clear hX ho HHREC
  have hr4 := hK4.blk hr3 hrp
  have hKw4 := hKw3.trans hK4 (fun n e => .inl e)
  have hK5 : Kp (fun _ => False) w4 (w4.alloc (.cells (N12 a1 n1 s1 r1 t1 (.slice p1 m1 e1)) 77)) := (Kp.refl _ _).alloc _
  have hr5 := hK5.blk hr4 id
  have hP5 := hP4.alloc (.cells (N12 a1 n1 s1 r1 t1 (.slice p1 m1 e1)) 77)
  have hn5 := blk_new w4 (.cells (N12 a1 n1 s1 r1 t1 (.slice p1 m1 e1)) 77)
  have hN5 := hN.next hK5 (fun n e => e.elim)
  have hKw5 := hKw4.trans hK5 (fun n e => e.elim)
  have hnp : w4.heap.size ≠ pb := by have := hP4.lt; omega
  have hnr : w4.heap.size ≠ rb := by have := lt_blk hr4; omega
  have HLO : Hid (w3.heap.size ≤ w4.heap.size) := hK4.size
  have hp3 : pb < w3.heap.size := hP3.lt
  obtain ⟨⟨c0, c1, c2, c3, c4⟩, f0, f1, f2, f3, f4⟩ := hP5.cells
  go_upto_region 33 with fail
  clear c0 c1 c2 c3 c4 f0 f1 f2 f3 f4
  generalize w4.alloc (.cells (N12 a1 n1 s1 r1 t1 (.slice p1 m1 e1)) 77) = w5 at *
  generalize w4.heap.size = nb at *
  have hP6 := hP5.setDeep d
  have hKs := kpset w5 pb 4 (.int .i64 (d : Nat))
  have hr6 := hKs.blk hr5 hrp
  have hn6 := hKs.blk hn5 hnp
  have hN6 := hN5.next hKs (fun n e => by left; omega)
  have hKw6 := hKw5.trans hKs (fun n e => .inl e)
  have HS6 : Hid (w3.heap.size ≤ (w5.setCell ⟨pb, 4, none⟩ (.int .i64 (d : Nat))).heap.size) := Nat.le_trans HLO.out (Nat.le_trans (Nat.le_of_lt (lt_blk hn5)) hKs.size)
  generalize w5.setCell ⟨pb, 4, none⟩ (.int .i64 (d : Nat)) = w6 at *
  have hK7 : Kp (fun _ => False) w6 (w6.alloc (.cells (N12 a1 n1 s1 r1 t1 (.slice p1 m1 e1)) 77)) := (Kp.refl _ _).alloc _
  have hr7 := hK7.blk hr6 id
  have hP7 := hP6.alloc (.cells (N12 a1 n1 s1 r1 t1 (.slice p1 m1 e1)) 77)
  have hg7 := blk_new w6 (.cells (N12 a1 n1 s1 r1 t1 (.slice p1 m1 e1)) 77)
  have hN7 := hN6.next hK7 (fun n e => e.elim)
  have hKw7 := hKw6.trans hK7 (fun n e => e.elim)
  have HSZ : Hid (w6.heap.size < (w6.alloc (.cells (N12 a1 n1 s1 r1 t1 (.slice p1 m1 e1)) 77)).heap.size) := by unfold Hid; simp
  obtain ⟨⟨g0, g1, g2, g3, g4, g5, g6, g7, g8, g9, g10, g11⟩, gf⟩ := cells12 hn6
  obtain ⟨⟨d0, d1, d2, d3, d4, d5, d6, d7, d8, d9, d10, d11⟩, df⟩ := cells12 hr7
  go_wp2_with fail
  clear g0 g1 g2 g3 g4 g5 g6 g7 g8 g9 g10 g11 gf d0 d1 d2 d3 d4 d5 d6 d7 d8 d9 d10 d11 df
  refine fin12 hr7 (Q := bodyPost _ _ _ _ _) ?_
  intro w9 hq9 hk9
  obtain ⟨⟨b0, b1, b2, b3, b4, b5, b6, b7, b8, b9, b10, b11⟩, bf⟩ := cells12 hq9
  refine bodyPost_ret (v := NV 7 0 nul .z .z (.slice (some ⟨w6.heap.size, 0, none⟩) 1 1)) (by simp [results, Tryz.results70, go_sem, b0, b1, b2, b3, b4, b5, b6, b7, b8, b9, b10, b11]) rfl ?_
  have hP9 := hP7.keep hk9 (fun e => hrp e.symm)
  have hK9 := hKw7.trans hk9 (fun n e => by right; rw [HRB.out, e]; exact Nat.le_refl _)
  have hrn : w6.heap.size ≠ rb := by have := lt_blk hr6; omega
  have hg9 := hk9.blk hg7 hrn
  have q1 := HSZ.out
  have q2 := hk9.size
  have q3 := HS6.out
  have hsz := hsz3
  have hN9 : Nd w9 (Own w w9) (NV 7 0 nul .z .z (.slice (some ⟨w6.heap.size, 0, none⟩) 1 1)) (tNeg u) := Nd.one hg9 ⟨by omega, by omega⟩ (Nat.le_refl _) (hN7.mono (fun n hn => hk9.block n hn.2 (by have := hn.1; have := lt_blk hr3; omega)) (fun n hn => ⟨by have := hn.1; omega, by have := hn.2; omega⟩))
  rcases HX2.out with ⟨k', rfl, rfl, rfl, hsk⟩ | ⟨f, rfl, rfl, hb⟩
  · exact ⟨_, j, rfl, hN9, hP9, hj, hsk, hK9⟩
  · exact ⟨_, _, j, rfl, hN9, hP9, hj, hb, hK9⟩
end Go.Proofs.YtomgjjngkffbbaaGreatDoor.fm

/- The reference's One at a bracket. Conditions: as each theorem says. -/
namespace Go.Proofs.YtomgjjngkffbbaaGreatDoor.fm
open Go.RowKit
set_option maxRecDepth 100000 in
set_option maxHeartbeats 8000000 in
theorem rone_par_full (pb k d : Nat) (wr : Int) (s : ByteArray) (hs : s.size ≤ 200) (w : World) (h : PD w pb s k wr 0 d) (hk : k ≤ s.size) (t : Tk) (ht : tkR s k = t) (hc : t.kind = 4) (hx : (t.t.toList == [40]) = true) (hd : d = 30) :
    Calls Tryz.prog 70 #[ptr pb] w (OutR w pb s d wr (.err t.a 4)) := by
  have hte : t.e ≤ s.size := ht ▸ (tk_spec s k hk).2.2
  have HT : Hid (∀ w, Calls Tryz.prog 54 #[.string s, .int .i64 k] w fun e w' => e = .returned (KV (tkR s k).kind ((tkR s k).a : Nat) ((tkR s k).e : Nat) (tkR s k).t) ∧ Below w.heap.size w w') := fun w => token_at s k w hs hk
  rw [ht] at HT
  clear ht
  have HHC : Hid (t.kind = 4) := hc
  clear hc
  go_enter Tryz.func70, Tryz.ntmps70
  go_upto_region 1 with fail
  have h0 : PD (w.alloc (.cells NZ 77)) pb s k wr 0 d := h.below ((Below.refl _ _).alloc (Nat.le_refl _) _)
  have hr : (w.alloc (.cells NZ 77)).heap[w.heap.size]? = some (.cells NZ 77 (0, 0)) := blk_new _ _
  have hK0 : Kp (· = pb) w (w.alloc (.cells NZ 77)) := (Kp.refl _ w).alloc _
  have hlt := h.lt
  have hrl : w.heap.size < (w.alloc (.cells NZ 77)).heap.size := by simp
  obtain ⟨rb, hrb⟩ : ∃ rb, w.heap.size = rb := ⟨_, rfl⟩
  rw [hrb] at hr hrl hlt ⊢
  have HRB : Hid (w.heap.size = rb) := hrb
  clear hrb
  generalize w.alloc (.cells NZ 77) = w0 at *
  obtain ⟨⟨c0, c1, c2, c3, c4⟩, f0, f1, f2, f3, f4⟩ := h0.cells
  have hrp : rb ≠ pb := by omega
  go_cut [3] (fun s3 wx => ∃ kb, s3 = ptr kb ∧ KS w0 t kb wx)
  case first =>
    have hlt0 := h0.lt
    have hne : w0.heap.size ≠ pb := by omega
    have hne' : pb ≠ w0.heap.size := by omega
    have KK : Hid (∀ wx, Below w0.heap.size w0 wx → wx.cell? ⟨pb, 0, none⟩ = some (.string s) ∧ wx.cell? ⟨pb, 1, none⟩ = some (.int .i64 k)) := fun wx hb => ⟨(hb.cell (p := ⟨pb, 0, none⟩) hlt0).trans c0, (hb.cell (p := ⟨pb, 1, none⟩) hlt0).trans c1⟩
    clear c0 c1 c2 c3 c4 f0 f1 f2 f3 f4
    go_region_held3 (fun wx => wx.cell? ⟨pb, 0, none⟩ = some (.string s) ∧ wx.cell? ⟨pb, 1, none⟩ = some (.int .i64 k)) (exact KK.out _ (by (repeat (first | exact Below.refl _ _ | assumption | (refine Below.setCell ?_ (by first | exact Nat.le_refl _ | omega) _) | (refine Below.alloc ?_ (by first | exact Nat.le_refl _ | exact hb'.size | omega | (simp <;> omega)) _) | (refine Below.drew ?_))))) ((go_at_call 54; refine (HT.out _).mono ?_; rintro e w1 ⟨rfl, hb⟩; have hb' : Below w0.heap.size w0 w1 := (by first | exact kb1 hb | exact kb2 hb); first | (have hz := kz_a hb; have hz4 := cells4f hz; obtain ⟨⟨z0, z1, z2, z3⟩, y0, y1, y2, y3⟩ := hz4) | skip))
    all_goals
      go_wp2_with fail
      go_meet
      case rel => first | exact ⟨_, rfl, ks3 hb⟩ | exact ks2 hb (Q := fun W => ∃ kb, _ = ptr kb ∧ KS w0 t kb W) (fun w2 h2 => ⟨_, rfl, h2⟩)
  case rest =>
  obtain ⟨kb, rfl, hS⟩ := hcut
  clear c0 c1 c2 c3 c4 f0 f1 f2 f3 f4 HT
  have hlo := hS.lo
  have hne : kb ≠ pb := by have := h0.lt; omega
  have hner : kb ≠ rb := by omega
  have hP : PD wc pb s k wr 0 d := h0.below hS.below
  obtain ⟨⟨c0, c1, c2, c3, c4⟩, f0, f1, f2, f3, f4⟩ := hP.cells
  obtain ⟨⟨z0, z1, z2, z3⟩, y0, y1, y2, y3⟩ := cells4f hS.blk
  have hKx : Kp (· = pb) w wc := hK0.below hS.below
  have hrc : wc.heap[rb]? = some (.cells NZ 77 (0, 0)) := by rw [hS.below.block rb hrl]; exact hr
  have hPe := hP.setAt t.e
  have hKe : Kp (· = pb) wc (wc.setCell ⟨pb, 1, none⟩ (.int .i64 t.e)) := kpset _ _ _ _
  have hrce := hKe.blk hrc hrp
  have hkbe := hKe.blk hS.blk hne
  have hKw := hKx.trans hKe (fun n e => .inl e)
  rw [HHC.out] at z0
  have hx45 : (t.t.toList == [45]) = false := by rw [beq_eq_false_iff_ne]; rw [beq_iff_eq] at hx; rw [hx]; decide
  go_wp2_with fail
  go_at_call 92
  subst hd
  refine (rdeeper_full pb t.e wr s t.a _ hPe).mono ?_
  rintro e w3 ⟨rfl, hP3, hK3⟩
  have hr3 := hK3.blk hrce hrp
  have hKw3 := hKw.trans hK3 (fun n e => .inl e)
  clear c0 c1 c2 c3 c4 f0 f1 f2 f3 f4 z0 z1 z2 z3 y0 y1 y2 y3
  obtain ⟨⟨d0, d1, d2, d3, d4, d5, d6, d7, d8, d9, d10, d11⟩, df⟩ := cells12 hr3
  go_wp2_with fail
  clear d0 d1 d2 d3 d4 d5 d6 d7 d8 d9 d10 d11 df
  refine fin12 hr3 (Q := bodyPost _ _ _ _ _) ?_
  intro w9 hq9 hk9
  obtain ⟨⟨b0, b1, b2, b3, b4, b5, b6, b7, b8, b9, b10, b11⟩, bf⟩ := cells12 hq9
  refine bodyPost_ret (v := NV 0 0 nul .z .z (.slice none 0 0)) (by simp [results, Tryz.results70, go_sem, b0, b1, b2, b3, b4, b5, b6, b7, b8, b9, b10, b11]) rfl ?_
  have hP9 := hP3.keep hk9 (fun e => hrp e.symm)
  have hK9 := hKw3.trans hk9 (fun n e => by right; rw [HRB.out, e]; exact Nat.le_refl _)
  exact ⟨_, _, t.e, rfl, Nd.leaf, hP9, hte, by omega, hK9⟩
set_option maxRecDepth 100000 in
set_option maxHeartbeats 8000000 in
theorem rone_par (pb k d : Nat) (wr : Int) (s : ByteArray) (hs : s.size ≤ 200) (w : World) (h : PD w pb s k wr 0 d) (hk : k ≤ s.size) (t : Tk) (ht : tkR s k = t) (hc : t.kind = 4) (hx : (t.t.toList == [40]) = true) (hd : d < 30) (R : Rs T) (hrec : ∀ w1, PD w1 pb s t.e wr 0 (d + 1) → Calls Tryz.prog 53 #[ptr pb, .int .i64 1] w1 (OutR w1 pb s (d + 1) wr R)) :
    Calls Tryz.prog 70 #[ptr pb] w (OutR w pb s d wr (R.bind fun u k1 => if nx s (skip s k1) = 41 then .ok u (skip s k1 + 1) else .err (skip s k1) 2)) := by
  have hte : t.e ≤ s.size := ht ▸ (tk_spec s k hk).2.2
  have HT : Hid (∀ w, Calls Tryz.prog 54 #[.string s, .int .i64 k] w fun e w' => e = .returned (KV (tkR s k).kind ((tkR s k).a : Nat) ((tkR s k).e : Nat) (tkR s k).t) ∧ Below w.heap.size w w') := fun w => token_at s k w hs hk
  rw [ht] at HT
  clear ht
  have HHC : Hid (t.kind = 4) := hc
  clear hc
  have HHREC : Hid (∀ w1, PD w1 pb s t.e wr 0 (d + 1) → Calls Tryz.prog 53 #[ptr pb, .int .i64 1] w1 (OutR w1 pb s (d + 1) wr R)) := hrec
  clear hrec
  go_enter Tryz.func70, Tryz.ntmps70
  go_upto_region 1 with fail
  have h0 : PD (w.alloc (.cells NZ 77)) pb s k wr 0 d := h.below ((Below.refl _ _).alloc (Nat.le_refl _) _)
  have hr : (w.alloc (.cells NZ 77)).heap[w.heap.size]? = some (.cells NZ 77 (0, 0)) := blk_new _ _
  have hK0 : Kp (· = pb) w (w.alloc (.cells NZ 77)) := (Kp.refl _ w).alloc _
  have hlt := h.lt
  have hrl : w.heap.size < (w.alloc (.cells NZ 77)).heap.size := by simp
  obtain ⟨rb, hrb⟩ : ∃ rb, w.heap.size = rb := ⟨_, rfl⟩
  rw [hrb] at hr hrl hlt ⊢
  have HRB : Hid (w.heap.size = rb) := hrb
  clear hrb
  generalize w.alloc (.cells NZ 77) = w0 at *
  obtain ⟨⟨c0, c1, c2, c3, c4⟩, f0, f1, f2, f3, f4⟩ := h0.cells
  have hrp : rb ≠ pb := by omega
  go_cut [3] (fun s3 wx => ∃ kb, s3 = ptr kb ∧ KS w0 t kb wx)
  case first =>
    have hlt0 := h0.lt
    have hne : w0.heap.size ≠ pb := by omega
    have hne' : pb ≠ w0.heap.size := by omega
    have KK : Hid (∀ wx, Below w0.heap.size w0 wx → wx.cell? ⟨pb, 0, none⟩ = some (.string s) ∧ wx.cell? ⟨pb, 1, none⟩ = some (.int .i64 k)) := fun wx hb => ⟨(hb.cell (p := ⟨pb, 0, none⟩) hlt0).trans c0, (hb.cell (p := ⟨pb, 1, none⟩) hlt0).trans c1⟩
    clear c0 c1 c2 c3 c4 f0 f1 f2 f3 f4
    go_region_held3 (fun wx => wx.cell? ⟨pb, 0, none⟩ = some (.string s) ∧ wx.cell? ⟨pb, 1, none⟩ = some (.int .i64 k)) (exact KK.out _ (by (repeat (first | exact Below.refl _ _ | assumption | (refine Below.setCell ?_ (by first | exact Nat.le_refl _ | omega) _) | (refine Below.alloc ?_ (by first | exact Nat.le_refl _ | exact hb'.size | omega | (simp <;> omega)) _) | (refine Below.drew ?_))))) ((go_at_call 54; refine (HT.out _).mono ?_; rintro e w1 ⟨rfl, hb⟩; have hb' : Below w0.heap.size w0 w1 := (by first | exact kb1 hb | exact kb2 hb); first | (have hz := kz_a hb; have hz4 := cells4f hz; obtain ⟨⟨z0, z1, z2, z3⟩, y0, y1, y2, y3⟩ := hz4) | skip))
    all_goals
      go_wp2_with fail
      go_meet
      case rel => first | exact ⟨_, rfl, ks3 hb⟩ | exact ks2 hb (Q := fun W => ∃ kb, _ = ptr kb ∧ KS w0 t kb W) (fun w2 h2 => ⟨_, rfl, h2⟩)
  case rest =>
  obtain ⟨kb, rfl, hS⟩ := hcut
  clear c0 c1 c2 c3 c4 f0 f1 f2 f3 f4 HT
  have hlo := hS.lo
  have hne : kb ≠ pb := by have := h0.lt; omega
  have hner : kb ≠ rb := by omega
  have hP : PD wc pb s k wr 0 d := h0.below hS.below
  obtain ⟨⟨c0, c1, c2, c3, c4⟩, f0, f1, f2, f3, f4⟩ := hP.cells
  obtain ⟨⟨z0, z1, z2, z3⟩, y0, y1, y2, y3⟩ := cells4f hS.blk
  have hKx : Kp (· = pb) w wc := hK0.below hS.below
  have hrc : wc.heap[rb]? = some (.cells NZ 77 (0, 0)) := by rw [hS.below.block rb hrl]; exact hr
  have hPe := hP.setAt t.e
  have hKe : Kp (· = pb) wc (wc.setCell ⟨pb, 1, none⟩ (.int .i64 t.e)) := kpset _ _ _ _
  have hrce := hKe.blk hrc hrp
  have hkbe := hKe.blk hS.blk hne
  have hKw := hKx.trans hKe (fun n e => .inl e)
  rw [HHC.out] at z0
  have hx45 : (t.t.toList == [45]) = false := by rw [beq_eq_false_iff_ne]; rw [beq_iff_eq] at hx; rw [hx]; decide
  go_wp2_with fail
  go_at_call 92
  refine (rdeeper_go pb t.e d wr 0 s t.a _ hPe hd).mono ?_
  rintro e w3 ⟨rfl, hP3, hK3⟩
  have hr3 := hK3.blk hrce hrp
  have hKw3 := hKw.trans hK3 (fun n e => .inl e)
  have hsz3 := hKw3.size
  clear c0 c1 c2 c3 c4 f0 f1 f2 f3 f4 z0 z1 z2 z3 y0 y1 y2 y3
  go_wp2_with fail
  go_at_call 53
  refine (HHREC.out _ hP3).mono ?_
  intro e w4 ho
  obtain ⟨a1, n1, s1, r1, t1, p1, m1, e1, u, j, wr', bd, rfl, hN, hP4, hj, hK4, hX⟩ := ho.open
  have HX2 : Hid _ := hX
  clear hX ho HHREC
  have hr4 := hK4.blk hr3 hrp
  have hKw4 := hKw3.trans hK4 (fun n e => .inl e)
  have hK5 : Kp (fun _ => False) w4 (w4.alloc (.cells (N12 a1 n1 s1 r1 t1 (.slice p1 m1 e1)) 77)) := (Kp.refl _ _).alloc _
  have hr5 := hK5.blk hr4 id
  have hP5 := hP4.alloc (.cells (N12 a1 n1 s1 r1 t1 (.slice p1 m1 e1)) 77)
  have hn5 := blk_new w4 (.cells (N12 a1 n1 s1 r1 t1 (.slice p1 m1 e1)) 77)
  have hN5 := hN.next hK5 (fun n e => e.elim)
  have hKw5 := hKw4.trans hK5 (fun n e => e.elim)
  have hnp : w4.heap.size ≠ pb := by have := hP4.lt; omega
  have hnr : w4.heap.size ≠ rb := by have := lt_blk hr4; omega
  have HLO : Hid (w3.heap.size ≤ w4.heap.size) := hK4.size
  have hp3 : pb < w3.heap.size := hP3.lt
  go_wp2_with fail
  go_at_call 97
  refine (rclose_any pb j d wr' bd s hs _ hP5 hj (by omega)).mono ?_
  rintro e w6 ⟨rfl, ⟨j2, wr2, bd2, hP6, hj2, hsh⟩, hK6⟩
  have HSH : Hid _ := hsh
  clear hsh
  have hr6 := hK6.blk hr5 hrp
  have hn6 := hK6.blk hn5 hnp
  have hN6 := hN5.next hK6 (fun n e => by left; omega)
  have hKw6 := hKw5.trans hK6 (fun n e => .inl e)
  generalize w4.heap.size = nb at *
  obtain ⟨⟨g0, g1, g2, g3, g4, g5, g6, g7, g8, g9, g10, g11⟩, gf⟩ := cells12 hn6
  obtain ⟨⟨d0, d1, d2, d3, d4, d5, d6, d7, d8, d9, d10, d11⟩, df⟩ := cells12 hr6
  go_wp2_with fail
  clear g0 g1 g2 g3 g4 g5 g6 g7 g8 g9 g10 g11 gf d0 d1 d2 d3 d4 d5 d6 d7 d8 d9 d10 d11 df
  refine fin12 hr6 (Q := bodyPost _ _ _ _ _) ?_
  intro w9 hq9 hk9
  obtain ⟨⟨b0, b1, b2, b3, b4, b5, b6, b7, b8, b9, b10, b11⟩, bf⟩ := cells12 hq9
  refine bodyPost_ret (v := NV a1 n1 s1 r1 t1 (.slice p1 m1 e1)) (by simp [results, Tryz.results70, go_sem, b0, b1, b2, b3, b4, b5, b6, b7, b8, b9, b10, b11]) rfl ?_
  have hP9 := hP6.keep hk9 (fun e => hrp e.symm)
  have hK9 := hKw6.trans hk9 (fun n e => by right; rw [HRB.out, e]; exact Nat.le_refl _)
  have q2 := hk9.size
  have hsz := hsz3
  have hN9 : Nd w9 (Own w w9) (NV a1 n1 s1 r1 t1 (.slice p1 m1 e1)) u := hN6.mono (fun n hn => hk9.block n hn.2 (by have := hn.1; have := lt_blk hr3; omega)) (fun n hn => ⟨by have := hn.1; omega, by have := hn.2; omega⟩)
  rcases HX2.out with ⟨k', rfl, rfl, rfl, hsk⟩ | ⟨f, rfl, rfl, hb⟩
  · rcases HSH.out with ⟨hn, _⟩ | ⟨_, h41, rfl, rfl, rfl⟩ | ⟨_, h41, rfl, rfl⟩
    · exact absurd rfl hn
    · show OutR w pb s d _ (if nx s (skip s k') = 41 then .ok u (skip s k' + 1) else .err (skip s k') 2) _ _
      rw [if_pos (by rw [← hsk]; exact h41)]
      exact ⟨_, _, rfl, hN9, hP9, hj2, by rw [hsk], hK9⟩
    · show OutR w pb s d _ (if nx s (skip s k') = 41 then .ok u (skip s k' + 1) else .err (skip s k') 2) _ _
      rw [if_neg (by rw [← hsk]; exact h41), ← hsk]
      exact ⟨_, _, _, rfl, hN9, hP9, hj2, by omega, hK9⟩
  · rcases HSH.out with ⟨_, rfl, rfl⟩ | ⟨hn, _⟩ | ⟨hn, _⟩
    · exact ⟨_, _, _, rfl, hN9, hP9, hj2, hb, hK9⟩
    · exact absurd hn hb
    · exact absurd hn hb
end Go.Proofs.YtomgjjngkffbbaaGreatDoor.fm

/- The reference's One at a name that is called. Conditions: as each theorem says. -/
namespace Go.Proofs.YtomgjjngkffbbaaGreatDoor.fm
open Go.RowKit
set_option maxRecDepth 100000 in
set_option maxHeartbeats 8000000 in
theorem rone_call_full (pb k d : Nat) (wr : Int) (s : ByteArray) (hs : s.size ≤ 200) (w : World) (h : PD w pb s k wr 0 d) (hk : k ≤ s.size) (t : Tk) (ht : tkR s k = t) (hc : t.kind = 1) (htz : t.t.size ≤ 200) (hg : true = (isNm t.t && decide (nx s t.e = 40))) (hd : d = 30) :
    Calls Tryz.prog 70 #[ptr pb] w (OutR w pb s d wr (.err t.a 4)) := by
  have hte : t.e ≤ s.size := ht ▸ (tk_spec s k hk).2.2
  have HT : Hid (∀ w, Calls Tryz.prog 54 #[.string s, .int .i64 k] w fun e w' => e = .returned (KV (tkR s k).kind ((tkR s k).a : Nat) ((tkR s k).e : Nat) (tkR s k).t) ∧ Below w.heap.size w w') := fun w => token_at s k w hs hk
  rw [ht] at HT
  clear ht
  have HHC : Hid (t.kind = 1) := hc
  clear hc
  obtain ⟨g, hgf⟩ : ∃ g : Bool, g = true := ⟨_, rfl⟩
  rw [← hgf] at hg
  have HGF : Hid (g = true) := hgf
  clear hgf
  go_enter Tryz.func70, Tryz.ntmps70
  go_upto_region 1 with fail
  have h0 : PD (w.alloc (.cells NZ 77)) pb s k wr 0 d := h.below ((Below.refl _ _).alloc (Nat.le_refl _) _)
  have hr : (w.alloc (.cells NZ 77)).heap[w.heap.size]? = some (.cells NZ 77 (0, 0)) := blk_new _ _
  have hK0 : Kp (· = pb) w (w.alloc (.cells NZ 77)) := (Kp.refl _ w).alloc _
  have hlt := h.lt
  have hrl : w.heap.size < (w.alloc (.cells NZ 77)).heap.size := by simp
  obtain ⟨rb, hrb⟩ : ∃ rb, w.heap.size = rb := ⟨_, rfl⟩
  rw [hrb] at hr hrl hlt ⊢
  have HRB : Hid (w.heap.size = rb) := hrb
  clear hrb
  generalize w.alloc (.cells NZ 77) = w0 at *
  obtain ⟨⟨c0, c1, c2, c3, c4⟩, f0, f1, f2, f3, f4⟩ := h0.cells
  have hrp : rb ≠ pb := by omega
  go_cut [3] (fun s3 wx => ∃ kb, s3 = ptr kb ∧ KS w0 t kb wx)
  case first =>
    have hlt0 := h0.lt
    have hne : w0.heap.size ≠ pb := by omega
    have hne' : pb ≠ w0.heap.size := by omega
    have KK : Hid (∀ wx, Below w0.heap.size w0 wx → wx.cell? ⟨pb, 0, none⟩ = some (.string s) ∧ wx.cell? ⟨pb, 1, none⟩ = some (.int .i64 k)) := fun wx hb => ⟨(hb.cell (p := ⟨pb, 0, none⟩) hlt0).trans c0, (hb.cell (p := ⟨pb, 1, none⟩) hlt0).trans c1⟩
    clear c0 c1 c2 c3 c4 f0 f1 f2 f3 f4
    go_region_held3 (fun wx => wx.cell? ⟨pb, 0, none⟩ = some (.string s) ∧ wx.cell? ⟨pb, 1, none⟩ = some (.int .i64 k)) (exact KK.out _ (by (repeat (first | exact Below.refl _ _ | assumption | (refine Below.setCell ?_ (by first | exact Nat.le_refl _ | omega) _) | (refine Below.alloc ?_ (by first | exact Nat.le_refl _ | exact hb'.size | omega | (simp <;> omega)) _) | (refine Below.drew ?_))))) ((go_at_call 54; refine (HT.out _).mono ?_; rintro e w1 ⟨rfl, hb⟩; have hb' : Below w0.heap.size w0 w1 := (by first | exact kb1 hb | exact kb2 hb); first | (have hz := kz_a hb; have hz4 := cells4f hz; obtain ⟨⟨z0, z1, z2, z3⟩, y0, y1, y2, y3⟩ := hz4) | skip))
    all_goals
      go_wp2_with fail
      go_meet
      case rel => first | exact ⟨_, rfl, ks3 hb⟩ | exact ks2 hb (Q := fun W => ∃ kb, _ = ptr kb ∧ KS w0 t kb W) (fun w2 h2 => ⟨_, rfl, h2⟩)
  case rest =>
  obtain ⟨kb, rfl, hS⟩ := hcut
  clear c0 c1 c2 c3 c4 f0 f1 f2 f3 f4 HT
  have hlo := hS.lo
  have hne : kb ≠ pb := by have := h0.lt; omega
  have hner : kb ≠ rb := by omega
  have hP : PD wc pb s k wr 0 d := h0.below hS.below
  obtain ⟨⟨c0, c1, c2, c3, c4⟩, f0, f1, f2, f3, f4⟩ := hP.cells
  obtain ⟨⟨z0, z1, z2, z3⟩, y0, y1, y2, y3⟩ := cells4f hS.blk
  have hKx : Kp (· = pb) w wc := hK0.below hS.below
  have hrc : wc.heap[rb]? = some (.cells NZ 77 (0, 0)) := by rw [hS.below.block rb hrl]; exact hr
  have hPe := hP.setAt t.e
  have hKe : Kp (· = pb) wc (wc.setCell ⟨pb, 1, none⟩ (.int .i64 t.e)) := kpset _ _ _ _
  have hrce := hKe.blk hrc hrp
  have hkbe := hKe.blk hS.blk hne
  have hKw := hKx.trans hKe (fun n e => .inl e)
  rw [HHC.out] at z0
  go_upto_region 6 with (first | (go_at_call 91; refine (called_any t.t _ htz).mono ?_; rintro e w3 ⟨rfl, rfl⟩))
  have hPel := hPe.lt
  obtain ⟨⟨e0, e1, e2, e3, e4⟩, h0', h1', h2', h3', h4'⟩ := hPe.cells
  obtain ⟨⟨x0, x1, x2, x3⟩, v0, v1, v2, v3⟩ := cells4f hkbe
  clear c0 c1 c2 c3 c4 f0 f1 f2 f3 f4 z0 z1 z2 z3 y0 y1 y2 y3
  generalize wc.setCell ⟨pb, 1, none⟩ (.int .i64 t.e) = we at *
  have HG : Hid (g = (isNm t.t && decide (nx s t.e = 40))) := hg
  clear hg
  generalize isNm t.t = nm at *
  go_cut [56] (fun s56 wx => s56 = .bool g ∧ Below we.heap.size we wx)
  case first =>
    cases nm with
    | false =>
      have HG2 : Hid (g = false) := by unfold Hid; rw [HG.out]; rfl
      clear HG
      go_quiet (fail)
      go_wp2_with fail
      go_meet
      case rel => exact ⟨by rw [HG2.out], below_drewN (Below.refl _ _) _⟩
    | true =>
      by_cases hl : t.e < s.size
      · have hl' : (t.e : Int) < (s.size : Int) := by omega
        have hnn : (0 : Int) ≤ (t.e : Int) := by omega
        have hb : (((s[t.e].toNat : Nat) : Int) == 40) = g := by
          rw [HG.out, nx_in hl, Bool.eq_iff_iff, beq_iff_eq]
          simp
          omega
        clear HG
        go_quiet (fail)
        go_wp2_with fail
        go_meet
        case rel => exact ⟨rfl, below_drewN (Below.refl _ _) _⟩
      · have hl' : ¬ (t.e : Int) < (s.size : Int) := by omega
        have HG2 : Hid (g = false) := by unfold Hid; rw [HG.out, nx_out hl]; simp
        clear HG
        go_quiet (fail)
        go_wp2_with fail
        go_meet
        case rel => exact ⟨by rw [HG2.out], below_drewN (Below.refl _ _) _⟩
  case rest =>
  obtain ⟨rfl, hbW⟩ := hcut
  clear e0 e1 e2 e3 e4 h0' h1' h2' h3' h4' x0 x1 x2 x3 v0 v1 v2 v3
  have hP6 : PD wc pb s t.e wr 0 d := hPe.below hbW
  have hr6 : wc.heap[rb]? = some (.cells NZ 77 (0, 0)) := by rw [hbW.block _ (lt_blk hrce)]; exact hrce
  have hk6 : wc.heap[kb]? = some (.cells (K4 t) 105 (0, 0)) := by rw [hbW.block _ (lt_blk hkbe)]; exact hkbe
  have hKw6 := hKw.below hbW
  obtain ⟨⟨x0, x1, x2, x3⟩, v0, v1, v2, v3⟩ := cells4f hk6
  rw [HGF.out]
  go_wp2_with fail
  go_at_call 92
  subst hd
  refine (rdeeper_full pb t.e wr s t.a _ hP6).mono ?_
  rintro e w7 ⟨rfl, hP7, hK7⟩
  clear x0 x1 x2 x3 v0 v1 v2 v3
  have hr7 := hK7.blk hr6 hrp
  have hKw7 := hKw6.trans hK7 (fun n e => .inl e)
  obtain ⟨⟨d0, d1, d2, d3, d4, d5, d6, d7, d8, d9, d10, d11⟩, df⟩ := cells12 hr7
  go_wp2_with fail
  clear d0 d1 d2 d3 d4 d5 d6 d7 d8 d9 d10 d11 df
  refine fin12 hr7 (Q := bodyPost _ _ _ _ _) ?_
  intro w9 hq9 hk9
  obtain ⟨⟨b0, b1, b2, b3, b4, b5, b6, b7, b8, b9, b10, b11⟩, bf⟩ := cells12 hq9
  refine bodyPost_ret (v := NV 0 0 nul .z .z (.slice none 0 0)) (by simp [results, Tryz.results70, go_sem, b0, b1, b2, b3, b4, b5, b6, b7, b8, b9, b10, b11]) rfl ?_
  have hP9 := hP7.keep hk9 (fun e => hrp e.symm)
  have hK9 := hKw7.trans hk9 (fun n e => by right; rw [HRB.out, e]; exact Nat.le_refl _)
  exact ⟨_, _, t.e, rfl, Nd.leaf, hP9, hte, by omega, hK9⟩
set_option maxRecDepth 100000 in
set_option maxHeartbeats 8000000 in
theorem rone_call (pb k d : Nat) (wr : Int) (s : ByteArray) (hs : s.size ≤ 200) (w : World) (h : PD w pb s k wr 0 d) (hk : k ≤ s.size) (t : Tk) (ht : tkR s k = t) (hc : t.kind = 1) (htz : t.t.size ≤ 200) (hg : true = (isNm t.t && decide (nx s t.e = 40))) (hd : d < 30) (R : Rs T) (hrec : ∀ w1, PD w1 pb s t.e wr 0 (d + 1) → Calls Tryz.prog 93 #[ptr pb, .string t.t] w1 (OutR w1 pb s d wr R)) :
    Calls Tryz.prog 70 #[ptr pb] w (OutR w pb s d wr (R)) := by
  have hte : t.e ≤ s.size := ht ▸ (tk_spec s k hk).2.2
  have HT : Hid (∀ w, Calls Tryz.prog 54 #[.string s, .int .i64 k] w fun e w' => e = .returned (KV (tkR s k).kind ((tkR s k).a : Nat) ((tkR s k).e : Nat) (tkR s k).t) ∧ Below w.heap.size w w') := fun w => token_at s k w hs hk
  rw [ht] at HT
  clear ht
  have HHC : Hid (t.kind = 1) := hc
  clear hc
  have HHREC : Hid (∀ w1, PD w1 pb s t.e wr 0 (d + 1) → Calls Tryz.prog 93 #[ptr pb, .string t.t] w1 (OutR w1 pb s d wr R)) := hrec
  clear hrec
  obtain ⟨g, hgf⟩ : ∃ g : Bool, g = true := ⟨_, rfl⟩
  rw [← hgf] at hg
  have HGF : Hid (g = true) := hgf
  clear hgf
  go_enter Tryz.func70, Tryz.ntmps70
  go_upto_region 1 with fail
  have h0 : PD (w.alloc (.cells NZ 77)) pb s k wr 0 d := h.below ((Below.refl _ _).alloc (Nat.le_refl _) _)
  have hr : (w.alloc (.cells NZ 77)).heap[w.heap.size]? = some (.cells NZ 77 (0, 0)) := blk_new _ _
  have hK0 : Kp (· = pb) w (w.alloc (.cells NZ 77)) := (Kp.refl _ w).alloc _
  have hlt := h.lt
  have hrl : w.heap.size < (w.alloc (.cells NZ 77)).heap.size := by simp
  obtain ⟨rb, hrb⟩ : ∃ rb, w.heap.size = rb := ⟨_, rfl⟩
  rw [hrb] at hr hrl hlt ⊢
  have HRB : Hid (w.heap.size = rb) := hrb
  clear hrb
  generalize w.alloc (.cells NZ 77) = w0 at *
  obtain ⟨⟨c0, c1, c2, c3, c4⟩, f0, f1, f2, f3, f4⟩ := h0.cells
  have hrp : rb ≠ pb := by omega
  go_cut [3] (fun s3 wx => ∃ kb, s3 = ptr kb ∧ KS w0 t kb wx)
  case first =>
    have hlt0 := h0.lt
    have hne : w0.heap.size ≠ pb := by omega
    have hne' : pb ≠ w0.heap.size := by omega
    have KK : Hid (∀ wx, Below w0.heap.size w0 wx → wx.cell? ⟨pb, 0, none⟩ = some (.string s) ∧ wx.cell? ⟨pb, 1, none⟩ = some (.int .i64 k)) := fun wx hb => ⟨(hb.cell (p := ⟨pb, 0, none⟩) hlt0).trans c0, (hb.cell (p := ⟨pb, 1, none⟩) hlt0).trans c1⟩
    clear c0 c1 c2 c3 c4 f0 f1 f2 f3 f4
    go_region_held3 (fun wx => wx.cell? ⟨pb, 0, none⟩ = some (.string s) ∧ wx.cell? ⟨pb, 1, none⟩ = some (.int .i64 k)) (exact KK.out _ (by (repeat (first | exact Below.refl _ _ | assumption | (refine Below.setCell ?_ (by first | exact Nat.le_refl _ | omega) _) | (refine Below.alloc ?_ (by first | exact Nat.le_refl _ | exact hb'.size | omega | (simp <;> omega)) _) | (refine Below.drew ?_))))) ((go_at_call 54; refine (HT.out _).mono ?_; rintro e w1 ⟨rfl, hb⟩; have hb' : Below w0.heap.size w0 w1 := (by first | exact kb1 hb | exact kb2 hb); first | (have hz := kz_a hb; have hz4 := cells4f hz; obtain ⟨⟨z0, z1, z2, z3⟩, y0, y1, y2, y3⟩ := hz4) | skip))
    all_goals
      go_wp2_with fail
      go_meet
      case rel => first | exact ⟨_, rfl, ks3 hb⟩ | exact ks2 hb (Q := fun W => ∃ kb, _ = ptr kb ∧ KS w0 t kb W) (fun w2 h2 => ⟨_, rfl, h2⟩)
  case rest =>
  obtain ⟨kb, rfl, hS⟩ := hcut
  clear c0 c1 c2 c3 c4 f0 f1 f2 f3 f4 HT
  have hlo := hS.lo
  have hne : kb ≠ pb := by have := h0.lt; omega
  have hner : kb ≠ rb := by omega
  have hP : PD wc pb s k wr 0 d := h0.below hS.below
  obtain ⟨⟨c0, c1, c2, c3, c4⟩, f0, f1, f2, f3, f4⟩ := hP.cells
  obtain ⟨⟨z0, z1, z2, z3⟩, y0, y1, y2, y3⟩ := cells4f hS.blk
  have hKx : Kp (· = pb) w wc := hK0.below hS.below
  have hrc : wc.heap[rb]? = some (.cells NZ 77 (0, 0)) := by rw [hS.below.block rb hrl]; exact hr
  have hPe := hP.setAt t.e
  have hKe : Kp (· = pb) wc (wc.setCell ⟨pb, 1, none⟩ (.int .i64 t.e)) := kpset _ _ _ _
  have hrce := hKe.blk hrc hrp
  have hkbe := hKe.blk hS.blk hne
  have hKw := hKx.trans hKe (fun n e => .inl e)
  rw [HHC.out] at z0
  go_upto_region 6 with (first | (go_at_call 91; refine (called_any t.t _ htz).mono ?_; rintro e w3 ⟨rfl, rfl⟩))
  have hPel := hPe.lt
  obtain ⟨⟨e0, e1, e2, e3, e4⟩, h0', h1', h2', h3', h4'⟩ := hPe.cells
  obtain ⟨⟨x0, x1, x2, x3⟩, v0, v1, v2, v3⟩ := cells4f hkbe
  clear c0 c1 c2 c3 c4 f0 f1 f2 f3 f4 z0 z1 z2 z3 y0 y1 y2 y3
  generalize wc.setCell ⟨pb, 1, none⟩ (.int .i64 t.e) = we at *
  have HG : Hid (g = (isNm t.t && decide (nx s t.e = 40))) := hg
  clear hg
  generalize isNm t.t = nm at *
  go_cut [56] (fun s56 wx => s56 = .bool g ∧ Below we.heap.size we wx)
  case first =>
    cases nm with
    | false =>
      have HG2 : Hid (g = false) := by unfold Hid; rw [HG.out]; rfl
      clear HG
      go_quiet (fail)
      go_wp2_with fail
      go_meet
      case rel => exact ⟨by rw [HG2.out], below_drewN (Below.refl _ _) _⟩
    | true =>
      by_cases hl : t.e < s.size
      · have hl' : (t.e : Int) < (s.size : Int) := by omega
        have hnn : (0 : Int) ≤ (t.e : Int) := by omega
        have hb : (((s[t.e].toNat : Nat) : Int) == 40) = g := by
          rw [HG.out, nx_in hl, Bool.eq_iff_iff, beq_iff_eq]
          simp
          omega
        clear HG
        go_quiet (fail)
        go_wp2_with fail
        go_meet
        case rel => exact ⟨rfl, below_drewN (Below.refl _ _) _⟩
      · have hl' : ¬ (t.e : Int) < (s.size : Int) := by omega
        have HG2 : Hid (g = false) := by unfold Hid; rw [HG.out, nx_out hl]; simp
        clear HG
        go_quiet (fail)
        go_wp2_with fail
        go_meet
        case rel => exact ⟨by rw [HG2.out], below_drewN (Below.refl _ _) _⟩
  case rest =>
  obtain ⟨rfl, hbW⟩ := hcut
  clear e0 e1 e2 e3 e4 h0' h1' h2' h3' h4' x0 x1 x2 x3 v0 v1 v2 v3
  have hP6 : PD wc pb s t.e wr 0 d := hPe.below hbW
  have hr6 : wc.heap[rb]? = some (.cells NZ 77 (0, 0)) := by rw [hbW.block _ (lt_blk hrce)]; exact hrce
  have hk6 : wc.heap[kb]? = some (.cells (K4 t) 105 (0, 0)) := by rw [hbW.block _ (lt_blk hkbe)]; exact hkbe
  have hKw6 := hKw.below hbW
  obtain ⟨⟨x0, x1, x2, x3⟩, v0, v1, v2, v3⟩ := cells4f hk6
  rw [HGF.out]
  go_wp2_with fail
  go_at_call 92
  refine (rdeeper_go pb t.e d wr 0 s t.a _ hP6 hd).mono ?_
  rintro e w7 ⟨rfl, hP7, hK7⟩
  clear x0 x1 x2 x3 v0 v1 v2 v3
  have hr7 := hK7.blk hr6 hrp
  have hk7 := hK7.blk hk6 hne
  have hKw7 := hKw6.trans hK7 (fun n e => .inl e)
  have hsz7 := hKw7.size
  obtain ⟨⟨x0, x1, x2, x3⟩, v0, v1, v2, v3⟩ := cells4f hk7
  go_wp2_with fail
  go_at_call 93
  refine (HHREC.out _ hP7).mono ?_
  intro e w8 ho
  obtain ⟨a1, n1, s1, r1, t1, p1, m1, e1, u, j, wr', bd, rfl, hN, hP8, hj, hK8, hX⟩ := ho.open
  have HX2 : Hid _ := hX
  clear hX ho HHREC x0 x1 x2 x3 v0 v1 v2 v3
  have hr8 := hK8.blk hr7 hrp
  have hKw8 := hKw7.trans hK8 (fun n e => .inl e)
  obtain ⟨⟨d0, d1, d2, d3, d4, d5, d6, d7, d8, d9, d10, d11⟩, df⟩ := cells12 hr8
  go_wp2_with fail
  clear d0 d1 d2 d3 d4 d5 d6 d7 d8 d9 d10 d11 df
  refine fin12 hr8 (Q := bodyPost _ _ _ _ _) ?_
  intro w9 hq9 hk9
  obtain ⟨⟨b0, b1, b2, b3, b4, b5, b6, b7, b8, b9, b10, b11⟩, bf⟩ := cells12 hq9
  refine bodyPost_ret (v := NV a1 n1 s1 r1 t1 (.slice p1 m1 e1)) (by simp [results, Tryz.results70, go_sem, b0, b1, b2, b3, b4, b5, b6, b7, b8, b9, b10, b11]) rfl ?_
  have hP9 := hP8.keep hk9 (fun e => hrp e.symm)
  have hK9 := hKw8.trans hk9 (fun n e => by right; rw [HRB.out, e]; exact Nat.le_refl _)
  have q2 := hk9.size
  have hN9 : Nd w9 (Own w w9) (NV a1 n1 s1 r1 t1 (.slice p1 m1 e1)) u := hN.mono (fun n hn => hk9.block n hn.2 (by have := hn.1; have := lt_blk hr7; omega)) (fun n hn => ⟨by have := hn.1; omega, by have := hn.2; omega⟩)
  rcases HX2.out with ⟨k', rfl, rfl, rfl, hsk⟩ | ⟨f, rfl, rfl, hb⟩
  · exact ⟨_, j, rfl, hN9, hP9, hj, hsk, hK9⟩
  · exact ⟨_, _, j, rfl, hN9, hP9, hj, hb, hK9⟩
end Go.Proofs.YtomgjjngkffbbaaGreatDoor.fm

/- A word means the same to the program and to the reference. Condition: it has at most 200 bytes, all of them letters, digits or dollars. -/
namespace Go.Proofs.YtomgjjngkffbbaaGreatDoor.fm
open Go.RowKit
theorem whole_lt {l : List UInt8} {v : Nat} (h : wholeN l = some v) : v < 9223372036854775808 := by
  unfold wholeN at h
  split at h
  · cases h
  · split at h
    · split at h
      · injection h with h; omega
      · cases h
    · cases h
theorem itoa_nat (v : Nat) : Lib.itoa (v : Int) = Lib.decDigits v := by
  unfold Lib.itoa
  rw [if_neg (by omega)]
  simp
theorem num_whole {t : ByteArray} {v : Nat} (h : wholeN t.data.toList = some v) : numOf t = some (v : Int) := by
  have hd := adr.whole_dec h
  have hv := whole_lt h
  have e : t.data.toList = Lib.itoa (v : Int) := by rw [itoa_nat, hd]
  unfold numOf
  rw [e, atoi_itoa _ (by omega) (by omega)]
  simp
theorem rdR_digit {t : ByteArray} (h0 : 0 < t.size) (h1 : 48 ≤ t[0].toNat ∧ t[0].toNat ≤ 57) : (adr.rdR t).ok = false := by
  have hD : adr.isD t 0 = false := by
    rw [adr.isD_at h0, beq_eq_false_iff_ne]
    omega
  have hb : adr.b2N (adr.isD t 0) = 0 := by rw [hD]; rfl
  have hz : adr.b2N (adr.isD t 0) < t.size := by omega
  rw [adr.rdR_out hz (adr.isC_col (by simp only [hb]; omega))]
theorem whole_first {t : ByteArray} {v : Nat} (h : wholeN t.data.toList = some v) : ∃ h0 : 0 < t.size, 48 ≤ t[0].toNat ∧ t[0].toNat ≤ 57 := by
  have hd := adr.whole_dec h
  obtain ⟨d1, d2, d3, d4⟩ := dv_dec v
  rw [hd] at d2 d3
  have h0 : 0 < t.size := by
    rcases Nat.eq_zero_or_pos t.size with e | e
    · exfalso
      apply d3
      apply List.eq_nil_of_length_eq_zero
      simpa using e
    · exact e
  refine ⟨h0, ?_⟩
  have hm : t[0] ∈ t.data.toList := by
    have : t[0] = t.data.toList[0]'(by simpa using h0) := by simp; rfl
    rw [this]; exact List.getElem_mem _
  have := List.all_eq_true.1 d2 _ hm
  unfold dig at this
  simp at this
  exact this
theorem text_eq {t u : ByteArray} (h : (t.toList == u.data.toList) = true) : t = u := by
  rw [beq_iff_eq, ByteArray.toList_eq] at h
  obtain ⟨⟨l⟩⟩ := t
  obtain ⟨⟨m⟩⟩ := u
  simp at h
  rw [h]
theorem word_mean (t : ByteArray) (hsz : t.size ≤ 200) (hW : ∀ c, c ∈ t.data.toList → isW c.toNat = true) : wordR t = meanOf t := by
  unfold wordR
  cases hw : wholeN t.data.toList with
  | some v =>
    obtain ⟨h0, h1⟩ := whole_first hw
    have hr := refOf_no (rdR_digit h0 h1)
    have hn := num_whole hw
    have hd : rd t = (1, (v : Int), YtomgjjngkffbbaaGreatDoor.nul) := by
      unfold rd
      rw [if_neg, if_neg (by omega), hn]
      rw [ByteArray.toList_eq]
      intro e
      rw [List.isEmpty_iff] at e
      have : t.size = 0 := by
        show t.data.size = 0
        rw [← Array.length_toList, e]
        rfl
      omega
    unfold meanOf
    rw [hr, hd]
    rfl
  | none =>
    simp only
    by_cases hT : (t.toList == [84, 82, 85, 69]) = true
    · rw [if_pos hT]
      obtain rfl : t = ⟨#[84, 82, 85, 69]⟩ := text_eq hT
      have hr : refOf ⟨#[84, 82, 85, 69]⟩ = none := by decide +kernel
      have hd : rd ⟨#[84, 82, 85, 69]⟩ = (3, 1, YtomgjjngkffbbaaGreatDoor.nul) := by decide +kernel
      unfold meanOf
      rw [hr, hd]
      rfl
    rw [if_neg hT]
    by_cases hF : (t.toList == [70, 65, 76, 83, 69]) = true
    · rw [if_pos hF]
      obtain rfl : t = ⟨#[70, 65, 76, 83, 69]⟩ := text_eq hF
      have hr : refOf ⟨#[70, 65, 76, 83, 69]⟩ = none := by decide +kernel
      have hd : rd ⟨#[70, 65, 76, 83, 69]⟩ = (3, 0, YtomgjjngkffbbaaGreatDoor.nul) := by decide +kernel
      unfold meanOf
      rw [hr, hd]
      rfl
    rw [if_neg hF]
    cases hok : (adr.rdR t).ok with
    | true =>
      rw [if_pos rfl]
      unfold meanOf
      rw [refOf_yes hok]
    | false =>
      rw [if_neg (by simp)]
      have hn : numOf t = none := by
        cases hn : numOf t with
        | none => rfl
        | some v =>
          exfalso
          obtain ⟨e1, e2⟩ := numOf_some hn
          have hb := atoi_bd e1
          unfold Lib.itoa at e2
          split at e2
          · have := hW 45 (by rw [← e2]; simp)
            revert this; decide
          · have := adr.dec_whole (v := v.toNat) (by omega)
            rw [e2, hw] at this
            cases this
      have hd : (rd t).1 ≠ 1 ∧ (rd t).1 ≠ 3 := by
        unfold rd
        split
        · exact ⟨by decide, by decide⟩
        split
        · exact ⟨by decide, by decide⟩
        rw [hn]
        simp only
        split
        · exact ⟨by simp, by simp⟩
        · exact ⟨by simp, by simp⟩
      unfold meanOf
      rw [refOf_no hok]
      simp only
      rw [if_neg hd.1, if_neg hd.2]
end Go.Proofs.YtomgjjngkffbbaaGreatDoor.fm
/- The reference's reader, whole: whatever stands at a place is read as chapter 3 says. Condition: the text has at most 200 bytes. -/
namespace Go.Proofs.YtomgjjngkffbbaaGreatDoor.fm
open Go.RowKit
theorem tok_all (s : ByteArray) (k : Nat) (hk : k ≤ s.size) : ∀ c, c ∈ (tok s k).data.toList → isW c.toNat = true := by
  intro c hc
  have ht := tok_spec s k
  have hz := tok_size s k hk
  obtain ⟨i, hi, he⟩ := List.getElem_of_mem hc
  have hi' : i < tokEnd s k - k := by
    have : i < (tok s k).data.size := by simpa using hi
    have e : (tok s k).data.size = (tok s k).size := rfl
    omega
  have hle := ht.2.2.1 hk
  have hw := ht.2.2.2 (k + i) (by omega) (by omega)
  rw [nx_in (by omega)] at hw
  have : c = s[k + i]'(by omega) := by
    rw [← he]
    unfold tok
    simp
    rfl
  rw [this]; exact hw
/-- The reading from a place on behind whose blanks so much is left. -/
def RefTo (s : ByteArray) (m : Nat) : Prop :=
  ∀ pb k d wr w, PD w pb s k wr 0 d → k ≤ s.size → s.size - skip s k ≤ m → d ≤ 30 →
    Calls Tryz.prog 70 #[ptr pb] w (OutR w pb s d wr (Operand lexP s d k)) ∧ ∀ l, 1 ≤ l → l ≤ 5 → Calls Tryz.prog 53 #[ptr pb, .int .i64 (l : Nat)] w (OutR w pb s d wr (Expr lexP s l d k))
section
variable {s : ByteArray} (hs : s.size ≤ 200)
include hs
theorem rcall_of (pb k d : Nat) (wr0 : Int) (name : ByteArray) (w : World) (h : PD w pb s k wr0 0 (d + 1)) (hk : k < s.size) (hd : d ≤ 30)
    (hex : ∀ j w1, k < j → j ≤ s.size → PD w1 pb s j wr0 0 (d + 1) → Calls Tryz.prog 53 #[ptr pb, .int .i64 1] w1 (OutR w1 pb s (d + 1) wr0 (Expr lexP s 1 (d + 1) j))) :
    Calls Tryz.prog 93 #[ptr pb, .string name] w (OutR w pb s d wr0 ((Args lexP s (d + 1) (k + 1)).bind fun l k' => .ok (tCall name l) k')) := by
  by_cases h41 : nx s (skip s (k + 1)) = 41
  · exact rcall_none hs pb k d wr0 name w h hk hd h41
  · exact rcall_some hs pb k d wr0 name w h hk hd h41 hex
set_option maxHeartbeats 4000000 in
theorem rone_of (m : Nat) (ih : ∀ m', m' < m → RefTo s m') (pb k d : Nat) (wr : Int) (w : World) (h : PD w pb s k wr 0 d) (hk : k ≤ s.size) (hm : s.size - skip s k ≤ m) (hd : d ≤ 30) :
    Calls Tryz.prog 70 #[ptr pb] w (OutR w pb s d wr (Operand lexP s d k)) := by
  have hk1 := (skip_spec s k).2.2 hk
  have hsp := tk_spec s k hk
  have h45 := tk_byte s k 45 (.inr (.inr (.inr rfl))) hk
  have h40 := tk_byte s k 40 (.inl rfl) hk
  rw [Operand_eq lexP s d k hk]
  by_cases c45 : nx s (skip s k) = 45
  · have hlt := nx_lt (s := s) (k := skip s k) (by omega)
    rw [if_pos c45]
    obtain ⟨q1, q2⟩ := h45.1.2 c45
    have he := h45.2 c45
    by_cases hd30 : d = 30
    · rw [if_pos hd30]
      have := rone_neg_full pb k d wr s hs w h hk _ rfl q1 q2 hd30
      rw [hsp.1] at this
      exact this
    · rw [if_neg hd30]
      refine rone_neg pb k d wr s hs w h hk _ rfl q1 q2 (by omega) _ fun w1 hP1 => ?_
      rw [he] at hP1
      have hsk := (skip_spec s (skip s k + 1)).1
      exact (ih (s.size - skip s (skip s k + 1)) (by omega) pb _ (d + 1) wr w1 hP1 hlt (Nat.le_refl _) (by omega)).1
  rw [if_neg c45]
  by_cases c40 : nx s (skip s k) = 40
  · have hlt := nx_lt (s := s) (k := skip s k) (by omega)
    rw [if_pos c40]
    obtain ⟨q1, q2⟩ := h40.1.2 c40
    have he := h40.2 c40
    by_cases hd30 : d = 30
    · rw [if_pos hd30]
      have := rone_par_full pb k d wr s hs w h hk _ rfl q1 q2 hd30
      rw [hsp.1] at this
      exact this
    · rw [if_neg hd30]
      refine rone_par pb k d wr s hs w h hk _ rfl q1 q2 (by omega) _ fun w1 hP1 => ?_
      rw [he] at hP1
      have hsk := (skip_spec s (skip s k + 1)).1
      exact (ih (s.size - skip s (skip s k + 1)) (by omega) pb _ (d + 1) wr w1 hP1 hlt (Nat.le_refl _) (by omega)).2 1 (Nat.le_refl _) (by omega)
  rw [if_neg c40]
  have n45 : ¬ ((tkR s k).kind = 4 ∧ ((tkR s k).t.toList == [45]) = true) := fun q => c45 (h45.1.1 q)
  have n40 : ¬ ((tkR s k).kind = 4 ∧ ((tkR s k).t.toList == [40]) = true) := fun q => c40 (h40.1.1 q)
  by_cases c34 : nx s (skip s k) = 34
  · have hlt := nx_lt (s := s) (k := skip s k) (by omega)
    rw [if_pos c34]
    have hw : isW (nx s (skip s k)) = false := by rw [c34]; decide
    cases hq : quote s (skip s k + 1) [] with
    | none =>
      have ht : tkR s k = ⟨9, skip s k, skip s k, nul⟩ := by
        unfold tkR
        rw [if_neg (by omega), if_neg (by simp [hw]), if_pos c34, hq]
      exact rone_no pb k d wr s hs w h hk _ ht (by simp) (by simp) (by simp) (by simp)
    | some p =>
      obtain ⟨l, e⟩ := p
      have ht : tkR s k = ⟨2, skip s k, e, ⟨l.toArray⟩⟩ := by
        unfold tkR
        rw [if_neg (by omega), if_neg (by simp [hw]), if_pos c34, hq]
      exact rone_text pb k d wr s hs w h hk _ ht rfl
  rw [if_neg c34]
  by_cases c35 : nx s (skip s k) = 35
  · have hlt := nx_lt (s := s) (k := skip s k) (by omega)
    rw [if_pos c35]
    have hw : isW (nx s (skip s k)) = false := by rw [c35]; decide
    cases hq : badAt s (skip s k) with
    | none =>
      have ht : tkR s k = ⟨9, skip s k, skip s k, nul⟩ := by
        unfold tkR
        rw [if_neg (by omega), if_neg (by simp [hw]), if_neg c34, if_pos c35, hq]
      exact rone_no pb k d wr s hs w h hk _ ht (by simp) (by simp) (by simp) (by simp)
    | some p =>
      obtain ⟨n, len⟩ := p
      have hb := badAt_spec hq
      have ht : tkR s k = ⟨3, skip s k, skip s k + len, sh 4 (n : Nat) YtomgjjngkffbbaaGreatDoor.nul⟩ := by
        unfold tkR
        rw [if_neg (by omega), if_neg (by simp [hw]), if_neg c34, if_pos c35, hq]
      exact rone_bad pb k d wr s hs w h hk _ ht rfl n hb.1 hb.2.1 rfl
  rw [if_neg c35]
  cases hw : isW (nx s (skip s k)) with
  | true =>
    have ht := tk_word s k hk hw
    have htz : (tok s (skip s k)).size ≤ 200 := by have := tok_size s (skip s k) hk1; have := (tok_spec s (skip s k)).2.2.1 hk1; omega
    by_cases cn : isNm (tok s (skip s k)) = true ∧ nx s (tokEnd s (skip s k)) = 40
    · have hlt := nx_lt (s := s) (k := tokEnd s (skip s k)) (by omega)
      have hlo := (tok_spec s (skip s k)).1
      rw [if_pos cn]
      have hg : true = (isNm (tok s (skip s k)) && decide (nx s (tokEnd s (skip s k)) = 40)) := by rw [cn.1, decide_eq_true cn.2]; rfl
      by_cases hd30 : d = 30
      · rw [if_pos hd30]
        exact rone_call_full pb k d wr s hs w h hk _ ht rfl htz hg hd30
      · rw [if_neg hd30]
        refine rone_call pb k d wr s hs w h hk _ ht rfl htz hg (by omega) ((Args lexP s (d + 1) (tokEnd s (skip s k) + 1)).bind fun l k' => .ok (tCall (tok s (skip s k)) l) k') fun w1 hP1 => ?_
        refine rcall_of hs pb (tokEnd s (skip s k)) d wr (tok s (skip s k)) w1 hP1 hlt hd fun j w2 hj hj2 hP2 => ?_
        have hsk := (skip_spec s j).1
        exact (ih (s.size - skip s j) (by omega) pb j (d + 1) wr w2 hP2 hj2 (Nat.le_refl _) (by omega)).2 1 (Nat.le_refl _) (by omega)
    · rw [if_neg cn]
      have hg : false = (isNm (tok s (skip s k)) && decide (nx s (tokEnd s (skip s k)) = 40)) := by
        cases hb : isNm (tok s (skip s k)) with
        | false => rfl
        | true => rw [decide_eq_false (fun e => cn ⟨hb, e⟩)]; rfl
      refine rone_word pb k d wr s hs w h hk _ ht rfl htz hg _ ?_
      show _ = wres (tok s (skip s k)) (skip s k) (tokEnd s (skip s k))
      unfold wres
      rw [word_mean _ htz (tok_all s _ hk1)]
      rfl
  | false =>
    have hte : tok s (skip s k) = ⟨#[]⟩ := tok_none hw
    have hnm : isNm (⟨#[]⟩ : ByteArray) = false := by decide
    rw [if_neg (by rw [hte, hnm]; simp), hte, show lexP.mean ⟨#[]⟩ = none from lexP.empty]
    have hk1' : (tkR s k).kind ≠ 1 := fun e => by rw [tk_kind1 s k e] at hw; cases hw
    have hk2 : (tkR s k).kind ≠ 2 ∧ (tkR s k).kind ≠ 3 := by
      unfold tkR
      by_cases h0 : skip s k = s.size
      · rw [if_pos h0]; exact ⟨by simp, by simp⟩
      rw [if_neg h0, if_neg (by simp [hw]), if_neg c34, if_neg c35]
      split <;> exact ⟨by simp, by simp⟩
    by_cases hk4 : (tkR s k).kind = 4
    · have := rone_sign pb k d wr s hs w h hk _ rfl hk4 (by
        cases hq : ((tkR s k).t.toList == [45]) with
        | false => rfl
        | true => exact absurd ⟨hk4, hq⟩ n45) (by
        cases hq : ((tkR s k).t.toList == [40]) with
        | false => rfl
        | true => exact absurd ⟨hk4, hq⟩ n40)
      rw [hsp.1] at this
      exact this
    · have := rone_no pb k d wr s hs w h hk _ rfl hk1' hk2.1 hk2.2 hk4
      rw [hsp.1] at this
      exact this
theorem ref_to : ∀ m, RefTo s m := by
  intro m
  induction m using Nat.strongRecOn with
  | _ m ih =>
    intro pb k d wr w h hk hm hd
    refine ⟨rone_of hs m ih pb k d wr w h hk hm hd, fun l h1 h5 => ?_⟩
    refine rloose_of hs pb k d l wr w h hk h1 h5 (fun w1 hP1 => rone_of hs m ih pb k d wr w1 hP1 hk hm hd) fun l' j w1 g1 g5 hkj hj hP1 => ?_
    have hsk := (skip_spec s j).1
    exact (ih (s.size - skip s j) (by omega) pb j d wr w1 hP1 hj (Nat.le_refl _) hd).2 l' g1 g5
end
end Go.Proofs.YtomgjjngkffbbaaGreatDoor.fm

/- The reference's Parse. Condition: none (the text may be any). -/
namespace Go.Proofs.YtomgjjngkffbbaaGreatDoor.fm
open Go.RowKit
/-- What the reference's Parse answers. -/
def OutQ (w : World) (r : Rs T) (e : Ending) (w' : World) : Prop :=
  match r with
  | .ok t _ => ∃ v, e = .returned (.tuple #[v, .int .i64 0, .int .i64 0]) ∧ Nd w' (Own w w') v t ∧ Below w.heap.size w w'
  | .err k c => e = .returned (.tuple #[NV 0 0 nul .z .z (.slice none 0 0), .int .i64 k, .int .i64 c]) ∧ Below w.heap.size w w'
theorem rparse_long (s : ByteArray) (w : World) (h : 200 < s.size) : Calls Tryz.prog 39 #[.string s] w (OutQ w (.err 0 4)) := by
  have hI : (200 : Int) < (s.size : Int) := by omega
  have hr := blk_new w (.cells NZ 77)
  have hb : Below w.heap.size w (w.alloc (.cells NZ 77)) := (Below.refl _ _).alloc (Nat.le_refl _) _
  obtain ⟨⟨d0, d1, d2, d3, d4, d5, d6, d7, d8, d9, d10, d11⟩, df⟩ := cells12 hr
  go_enter Tryz.func39, Tryz.ntmps39
  go_wp2_with fail
  clear d0 d1 d2 d3 d4 d5 d6 d7 d8 d9 d10 d11 df
  obtain ⟨⟨b0, b1, b2, b3, b4, b5, b6, b7, b8, b9, b10, b11⟩, bf⟩ := cells12 hr
  exact bodyPost_ret (v := .tuple #[NV 0 0 nul .z .z (.slice none 0 0), .int .i64 0, .int .i64 4]) (by simp [results, Tryz.results39, go_sem, b0, b1, b2, b3, b4, b5, b6, b7, b8, b9, b10, b11]) rfl ⟨rfl, hb⟩
theorem rparse_no (s : ByteArray) (w : World) (h : s.size ≤ 200) (hn : nx s 0 ≠ 61) : Calls Tryz.prog 39 #[.string s] w (OutQ w (.err 0 2)) := by
  have hI : ¬ (200 : Int) < (s.size : Int) := by omega
  have hr := blk_new w (.cells NZ 77)
  have hb : Below w.heap.size w (w.alloc (.cells NZ 77)) := (Below.refl _ _).alloc (Nat.le_refl _) _
  obtain ⟨⟨d0, d1, d2, d3, d4, d5, d6, d7, d8, d9, d10, d11⟩, df⟩ := cells12 hr
  by_cases hz : 0 < s.size
  · have he : s.toList.isEmpty = false := by
      rw [ByteArray.toList_eq]
      cases hl : s.data.toList with
      | nil =>
        exfalso
        have : s.size = 0 := by
          show s.data.size = 0
          rw [← Array.length_toList, hl]
          rfl
        omega
      | cons a r => rfl
    have hc : (((s[0].toNat : Nat) : Int) != 61) = true := by rw [bne_iff_ne]; rw [nx_in hz] at hn; omega
    have hlI : (0 : Int) < (s.size : Int) := by omega
    clear hn
    go_enter Tryz.func39, Tryz.ntmps39
    go_wp2_with fail
    clear d0 d1 d2 d3 d4 d5 d6 d7 d8 d9 d10 d11 df
    obtain ⟨⟨b0, b1, b2, b3, b4, b5, b6, b7, b8, b9, b10, b11⟩, bf⟩ := cells12 hr
    exact bodyPost_ret (v := .tuple #[NV 0 0 nul .z .z (.slice none 0 0), .int .i64 0, .int .i64 2]) (by simp [results, Tryz.results39, go_sem, b0, b1, b2, b3, b4, b5, b6, b7, b8, b9, b10, b11]) rfl ⟨rfl, hb⟩
  · have he : s.toList.isEmpty = true := by
      rw [ByteArray.toList_eq]
      have : s.data.toList = [] := List.eq_nil_of_length_eq_zero (by rw [Array.length_toList]; show s.size = 0; omega)
      rw [this]
      rfl
    clear hn
    go_enter Tryz.func39, Tryz.ntmps39
    go_wp2_with fail
    clear d0 d1 d2 d3 d4 d5 d6 d7 d8 d9 d10 d11 df
    obtain ⟨⟨b0, b1, b2, b3, b4, b5, b6, b7, b8, b9, b10, b11⟩, bf⟩ := cells12 hr
    exact bodyPost_ret (v := .tuple #[NV 0 0 nul .z .z (.slice none 0 0), .int .i64 0, .int .i64 2]) (by simp [results, Tryz.results39, go_sem, b0, b1, b2, b3, b4, b5, b6, b7, b8, b9, b10, b11]) rfl ⟨rfl, hb⟩
set_option maxRecDepth 100000 in
set_option maxHeartbeats 8000000 in
theorem rparse_go (s : ByteArray) (w : World) (hs : s.size ≤ 200) (hz : 0 < s.size) (hn : nx s 0 = 61) (X : Rs T) (hl : ∀ pb w1, PD w1 pb s 1 0 0 0 → Calls Tryz.prog 53 #[ptr pb, .int .i64 1] w1 (OutR w1 pb s 0 0 X)) :
    Calls Tryz.prog 39 #[.string s] w (OutQ w (X.bind fun t k => if skip s k < s.size then .err (skip s k) 2 else .ok t 0)) := by
  have hI : ¬ (200 : Int) < (s.size : Int) := by omega
  have HL : Hid (∀ pb w1, PD w1 pb s 1 0 0 0 → Calls Tryz.prog 53 #[ptr pb, .int .i64 1] w1 (OutR w1 pb s 0 0 X)) := hl
  have he : s.toList.isEmpty = false := by
    rw [ByteArray.toList_eq]
    cases hl : s.data.toList with
    | nil =>
      exfalso
      have : s.size = 0 := by
        show s.data.size = 0
        rw [← Array.length_toList, hl]
        rfl
      omega
    | cons a r => rfl
  have hc : (((s[0].toNat : Nat) : Int) != 61) = false := by rw [bne_eq_false_iff_eq]; rw [nx_in hz] at hn; omega
  have hlI : (0 : Int) < (s.size : Int) := by omega
  clear hn hl
  have hr : ((w.alloc (.cells NZ 77)).alloc (.cells #[.string s, .int .i64 1, .int .i64 0, .int .i64 0, .int .i64 0] 102)).heap[w.heap.size]? = some (.cells NZ 77 (0, 0)) := by rw [Below.heap_alloc _ _ _ (by simp)]; exact blk_new _ _
  have hP : PD ((w.alloc (.cells NZ 77)).alloc (.cells #[.string s, .int .i64 1, .int .i64 0, .int .i64 0, .int .i64 0] 102)) (w.heap.size + 1) s 1 0 0 0 := by
    unfold PD
    have := blk_new (w.alloc (.cells NZ 77)) (.cells #[.string s, .int .i64 1, .int .i64 0, .int .i64 0, .int .i64 0] 102)
    simpa using this
  have hK : Kp (· = w.heap.size + 1) w ((w.alloc (.cells NZ 77)).alloc (.cells #[.string s, .int .i64 1, .int .i64 0, .int .i64 0, .int .i64 0] 102)) := ((Kp.refl _ w).alloc _).alloc _
  go_enter Tryz.func39, Tryz.ntmps39
  go_wp2_with fail
  go_at_call 53
  generalize ((w.alloc (.cells NZ 77)).alloc (.cells #[.string s, .int .i64 1, .int .i64 0, .int .i64 0, .int .i64 0] 102)) = w1 at *
  obtain ⟨pb, hpb⟩ : ∃ pb, w.heap.size + 1 = pb := ⟨_, rfl⟩
  rw [hpb] at hP hK ⊢
  refine (HL.out pb _ hP).mono ?_
  intro e w2 ho
  obtain ⟨a1, n1, s1, r1, t1, p1, m1, e1, u, j, wr', bd, rfl, hN, hP2, hj, hK2, hX⟩ := ho.open
  have HX : Hid _ := hX
  have HPB : Hid (w.heap.size + 1 = pb) := hpb
  clear hX ho HL hpb
  have hrp : w.heap.size ≠ pb := by have := HPB.out; omega
  have hr1' := hr
  have hr2 := hK2.blk hr hrp
  have hKw2 := hK.trans hK2 (fun n e => .inl e)
  have HLE : Hid (w.heap.size ≤ w1.heap.size) := hK.size
  have hpl := hP2.lt
  have hK3 : Kp (fun _ => False) w2 (w2.alloc (.cells (N12 a1 n1 s1 r1 t1 (.slice p1 m1 e1)) 77)) := (Kp.refl _ _).alloc _
  have hr3 := hK3.blk hr2 id
  have hP3 := hP2.alloc (.cells (N12 a1 n1 s1 r1 t1 (.slice p1 m1 e1)) 77)
  have hn3 := blk_new w2 (.cells (N12 a1 n1 s1 r1 t1 (.slice p1 m1 e1)) 77)
  have hN3 := hN.next hK3 (fun n e => e.elim)
  have hKw3 := hKw2.trans hK3 (fun n e => e.elim)
  have hnp : w2.heap.size ≠ pb := by omega
  have HNR : Hid (w.heap.size < w2.heap.size) := by have := HPB.out; unfold Hid; omega
  obtain ⟨⟨c0, c1, c2, c3, c4⟩, f0, f1, f2, f3, f4⟩ := hP3.cells
  have HT : Hid (∀ w, Calls Tryz.prog 54 #[.string s, .int .i64 j] w fun e w' => e = .returned (KV (tkR s j).kind ((tkR s j).a : Nat) ((tkR s j).e : Nat) (tkR s j).t) ∧ Below w.heap.size w w') := fun w => token_at s j w hs hj
  have HZ : Hid _ := tk_zero s j hj
  have HA : Hid ((tkR s j).a = skip s j) := (tk_spec s j hj).1
  generalize tkR s j = tk at *
  go_wp2_with fail
  go_at_call 54
  refine (HT.out _).mono ?_
  rintro e w4 ⟨rfl, hb4⟩
  clear c0 c1 c2 c3 c4 f0 f1 f2 f3 f4 HT
  generalize w2.alloc (.cells (N12 a1 n1 s1 r1 t1 (.slice p1 m1 e1)) 77) = w3 at *
  generalize w2.heap.size = nb at *
  have hb5 : Below w3.heap.size w3 (w4.alloc (.cells (K4 tk) 105)) := hb4.alloc hb4.size _
  have hP5 := hP3.below hb5
  have hr5 : (w4.alloc (.cells (K4 tk) 105)).heap[w.heap.size]? = some (.cells NZ 77 (0, 0)) := by rw [hb5.block _ (lt_blk hr3)]; exact hr3
  have hn5 : (w4.alloc (.cells (K4 tk) 105)).heap[nb]? = some (.cells (N12 a1 n1 s1 r1 t1 (.slice p1 m1 e1)) 77 (0, 0)) := by rw [hb5.block _ (lt_blk hn3)]; exact hn3
  have hk5 := blk_new w4 (.cells (K4 tk) 105)
  have hN5 : Nd (w4.alloc (.cells (K4 tk) 105)) (Own w1 (w4.alloc (.cells (K4 tk) 105))) (NV a1 n1 s1 r1 t1 (.slice p1 m1 e1)) u := hN3.mono (fun n hn => hb5.block n hn.2) (fun n hn => ⟨hn.1, Nat.lt_of_lt_of_le hn.2 hb5.size⟩)
  have hKw5 := hKw3.below hb5
  go_upto_region 8 with fail
  generalize w4.alloc (.cells (K4 tk) 105) = w5 at *
  generalize w4.heap.size = kb at *
  clear hP3 hr3 hn3 hN3 hKw3 hb5 hb4 hP2 hr2 hKw2 hP hr hK3
  obtain ⟨⟨c0, c1, c2, c3, c4⟩, f0, f1, f2, f3, f4⟩ := hP5.cells
  obtain ⟨⟨z0, z1, z2, z3⟩, y0, y1, y2, y3⟩ := cells4f hk5
  by_cases hbd : bd = 0
  · have hb0 : (bd == 0) = true := beq_iff_eq.2 hbd
    have hb1 : (bd != 0) = false := by rw [bne, hb0]; rfl
    by_cases hkz : tk.kind = 0
    · have hk0 : (tk.kind != 0) = false := by rw [bne_eq_false_iff_eq]; exact hkz
      have HSK : Hid (¬ skip s j < s.size) := HZ.out.1 hkz
      have HBD : Hid (bd = 0) := hbd
      clear hbd hkz HZ
      obtain ⟨⟨g0, g1, g2, g3, g4, g5, g6, g7, g8, g9, g10, g11⟩, gf⟩ := cells12 hn5
      obtain ⟨⟨d0, d1, d2, d3, d4, d5, d6, d7, d8, d9, d10, d11⟩, df⟩ := cells12 hr5
      go_wp2_with fail
      clear c0 c1 c2 c3 c4 f0 f1 f2 f3 f4 z0 z1 z2 z3 y0 y1 y2 y3 g0 g1 g2 g3 g4 g5 g6 g7 g8 g9 g10 g11 gf d0 d1 d2 d3 d4 d5 d6 d7 d8 d9 d10 d11 df
      refine fin12 hr5 (Q := bodyPost _ _ _ _ _) ?_
      intro w9 hq9 hk9
      obtain ⟨⟨b0, b1, b2, b3, b4, b5, b6, b7, b8, b9, b10, b11⟩, bf⟩ := cells12 hq9
      refine bodyPost_ret (v := .tuple #[NV a1 n1 s1 r1 t1 (.slice p1 m1 e1), .int .i64 0, .int .i64 0]) (by simp [results, Tryz.results39, go_sem, b0, b1, b2, b3, b4, b5, b6, b7, b8, b9, b10, b11]) rfl ?_
      have q1 := HPB.out
      have q2 := HLE.out
      have q3 := HNR.out
      rcases HX.out with ⟨k', hx, _, _, hsk⟩ | ⟨f, _, _, hb⟩
      · have hR : (X.bind fun t k => if skip s k < s.size then .err (skip s k) 2 else .ok t 0) = Rs.ok u 0 := by
          rw [hx]
          show (if skip s k' < s.size then Rs.err (skip s k') 2 else Rs.ok u 0) = _
          rw [if_neg (by rw [← hsk]; exact HSK.out)]
        rw [hR]
        have hB : Below w.heap.size w w9 := kp_below (hKw5.trans hk9 (fun n e => by right; omega)) (by omega)
        refine ⟨_, rfl, ?_, hB⟩
        exact hN5.mono (fun n hn => hk9.block n hn.2 (by have := hn.1; have := lt_blk hr1'; omega)) (fun n hn => ⟨by have := hn.1; omega, Nat.lt_of_lt_of_le hn.2 hk9.size⟩)
      · exact absurd HBD.out hb
    · have hk0 : (tk.kind != 0) = true := by rw [bne_iff_ne]; exact hkz
      have HSK : Hid (skip s j < s.size) := by
        cases Nat.lt_or_ge (skip s j) s.size with
        | inl h => exact h
        | inr h => exact absurd (HZ.out.2 (by omega)) hkz
      have HBD : Hid (bd = 0) := hbd
      clear hkz HZ
      go_wp2_with fail
      go_at_call 55
      subst hbd
      refine (fail_first pb j 0 wr' s tk.a 2 _ hP5).mono ?_
      rintro e w6 ⟨rfl, hP6, hK6⟩
      clear c0 c1 c2 c3 c4 f0 f1 f2 f3 f4 z0 z1 z2 z3 y0 y1 y2 y3
      have hr6 := hK6.blk hr5 hrp
      have hKw6 := hKw5.trans hK6 (fun n e => .inl e)
      obtain ⟨⟨c0, c1, c2, c3, c4⟩, f0, f1, f2, f3, f4⟩ := hP6.cells
      obtain ⟨⟨d0, d1, d2, d3, d4, d5, d6, d7, d8, d9, d10, d11⟩, df⟩ := cells12 hr6
      go_wp2_with fail
      go_region
      clear c0 c1 c2 c3 c4 f0 f1 f2 f3 f4 d0 d1 d2 d3 d4 d5 d6 d7 d8 d9 d10 d11 df
      go_wp2_with fail
      refine fin12 hr6 (Q := fun W => bodyPost _ _ _ _ _ W.drew) ?_
      intro w9 hq9 hk9
      obtain ⟨⟨b0, b1, b2, b3, b4, b5, b6, b7, b8, b9, b10, b11⟩, bf⟩ := cells12 hq9
      refine bodyPost_ret (v := .tuple #[NV 0 0 nul .z .z (.slice none 0 0), .int .i64 (tk.a : Nat), .int .i64 2]) (by simp [results, Tryz.results39, go_sem, b0, b1, b2, b3, b4, b5, b6, b7, b8, b9, b10, b11]) rfl ?_
      have q1 := HPB.out
      have q2 := HLE.out
      have q3 := HNR.out
      have hB : Below w.heap.size w w9 := kp_below (hKw6.trans hk9 (fun n e => by right; omega)) (by omega)
      rcases HX.out with ⟨k', hx, hbz, _, hsk⟩ | ⟨f, hx, hwf, hb⟩
      · have hR : (X.bind fun t k => if skip s k < s.size then .err (skip s k) 2 else .ok t 0) = Rs.err (skip s j) 2 := by
          rw [hx]
          show (if skip s k' < s.size then Rs.err (skip s k') 2 else Rs.ok u 0) = _
          rw [if_pos (by rw [← hsk]; exact HSK.out), hsk]
        rw [hR]
        exact ⟨by rw [HA.out], hB.drew⟩
      · exact absurd rfl hb
  · have hb0 : (bd == 0) = false := beq_eq_false_iff_ne.2 hbd
    have hb1 : (bd != 0) = true := by rw [bne, hb0]; rfl
    have HBD : Hid (bd ≠ 0) := hbd
    clear hbd HZ
    obtain ⟨⟨d0, d1, d2, d3, d4, d5, d6, d7, d8, d9, d10, d11⟩, df⟩ := cells12 hr5
    go_wp2_with fail
    go_region
    clear c0 c1 c2 c3 c4 f0 f1 f2 f3 f4 d0 d1 d2 d3 d4 d5 d6 d7 d8 d9 d10 d11 df
    go_wp2_with fail
    refine fin12 hr5 (Q := fun W => bodyPost _ _ _ _ _ W.drew) ?_
    intro w9 hq9 hk9
    obtain ⟨⟨b0, b1, b2, b3, b4, b5, b6, b7, b8, b9, b10, b11⟩, bf⟩ := cells12 hq9
    refine bodyPost_ret (v := .tuple #[NV 0 0 nul .z .z (.slice none 0 0), .int .i64 wr', .int .i64 bd]) (by simp [results, Tryz.results39, go_sem, b0, b1, b2, b3, b4, b5, b6, b7, b8, b9, b10, b11]) rfl ?_
    have q1 := HPB.out
    have q2 := HLE.out
    have q3 := HNR.out
    have hB : Below w.heap.size w w9 := kp_below (hKw5.trans hk9 (fun n e => by right; omega)) (by omega)
    rcases HX.out with ⟨k', hx, hbz, _, hsk⟩ | ⟨f, hx, hwf, hb⟩
    · exact absurd hbz HBD.out
    · have hR : (X.bind fun t k => if skip s k < s.size then .err (skip s k) 2 else .ok t 0) = Rs.err f bd := by rw [hx]; rfl
      rw [hR, hwf]
      exact ⟨rfl, hB.drew⟩
end Go.Proofs.YtomgjjngkffbbaaGreatDoor.fm
namespace Go.Proofs.YtomgjjngkffbbaaGreatDoor.fm
open Go.RowKit
theorem rparse_any (s : ByteArray) (w : World) (RR : Rs T) (hRR : parse lexP s = RR) : Calls Tryz.prog 39 #[.string s] w (OutQ w RR) := by
  unfold parse at hRR
  by_cases h1 : 200 < s.size
  · rw [if_pos h1] at hRR
    subst hRR
    exact rparse_long s w h1
  rw [if_neg h1] at hRR
  by_cases h2 : nx s 0 ≠ 61
  · rw [if_pos h2] at hRR
    subst hRR
    exact rparse_no s w (by omega) h2
  rw [if_neg h2] at hRR
  subst hRR
  have h3 : nx s 0 = 61 := Classical.byContradiction h2
  have hz := nx_lt (s := s) (k := 0) (by omega)
  exact rparse_go s w (by omega) hz h3 _ fun pb w1 hP => (ref_to (s := s) (by omega) s.size pb 1 0 0 w1 hP hz (by omega) (by omega)).2 1 (Nat.le_refl _) (by omega)
/-- Whatever is wrong has a number. -/
def GoodR {α : Type} (r : Rs α) : Prop := ∀ k c, r = .err k c → c ≠ 0
theorem GoodR.ok {α : Type} {a : α} {k : Nat} : GoodR (.ok a k) := fun _ _ h => by cases h
theorem GoodR.two {α : Type} {k : Nat} : GoodR (.err k 2 : Rs α) := fun _ _ h => by cases h; decide
theorem GoodR.four {α : Type} {k : Nat} : GoodR (.err k 4 : Rs α) := fun _ _ h => by cases h; decide
theorem GoodR.bind {α β : Type} {r : Rs α} {f : α → Nat → Rs β} (h : GoodR r) (h2 : ∀ a k, r = .ok a k → GoodR (f a k)) : GoodR (r.bind f) := by
  cases r with
  | ok a k => exact h2 a k rfl
  | err k e => exact fun k' c hc => by cases hc; exact h k e rfl
section
variable (L : Lex) (s : ByteArray)
def Nz (f : Nat) : Prop :=
  (∀ d k, k ≤ s.size → 10 * (s.size - k) + 1 ≤ f → GoodR (operand L s f d k)) ∧
  (∀ l d k, 1 ≤ l → k ≤ s.size → 10 * (s.size - k) + 2 + (5 - l) ≤ f → GoodR (expr L s f l d k)) ∧
  (∀ l d t k, 1 ≤ l → k ≤ s.size → 10 * (s.size - k) + 1 ≤ f → GoodR (rest L s f l d t k)) ∧
  (∀ d k, k ≤ s.size → 10 * (s.size - k) + 8 ≤ f → GoodR (args L s f d k)) ∧
  (∀ d a k, k ≤ s.size → 10 * (s.size - k) + 1 ≤ f → GoodR (more L s f d a k)) ∧
  (∀ d k, k ≤ s.size → 10 * (s.size - k) + 7 ≤ f → GoodR (arg L s f d k))
theorem nz : ∀ f, Nz L s f := by
  intro f
  induction f with
  | zero => refine ⟨?_, ?_, ?_, ?_, ?_, ?_⟩ <;> intros <;> omega
  | succ f ih =>
    obtain ⟨i1, i2, i3, i4, i5, i6⟩ := ih
    obtain ⟨p1, p2, p3, p4, p5, p6⟩ := prog L s f
    refine ⟨?_, ?_, ?_, ?_, ?_, ?_⟩
    · intro d k0 hk hf
      have hs := skip_spec s k0
      have hk1 := hs.2.2 hk
      have ht := tok_spec s (skip s k0)
      rw [operand]
      split
      · next c =>
        have hlt := nx_lt (s := s) (k := skip s k0) (by omega)
        split
        · exact .four
        · exact (i1 _ _ (by omega) (by omega)).bind fun _ _ _ => .ok
      split
      · next c =>
        have hlt := nx_lt (s := s) (k := skip s k0) (by omega)
        split
        · exact .four
        · exact (i2 _ _ _ (Nat.le_refl _) (by omega) (by omega)).bind fun _ _ _ => by
            split
            · exact .ok
            · exact .two
      split
      · split
        · exact .two
        · exact .ok
      split
      · split
        · exact .two
        · exact .ok
      split
      · next c =>
        have hlt := nx_lt (s := s) (k := tokEnd s (skip s k0)) (by omega)
        split
        · exact .four
        · exact (i4 _ _ (by omega) (by omega)).bind fun _ _ _ => .ok
      · split
        · exact .two
        · exact .ok
    · intro l d k hl hk hf
      rw [expr]
      split
      · exact i1 _ _ hk (by omega)
      · refine (i2 _ _ _ (by omega) hk (by omega)).bind fun a k1 e => ?_
        have := p2 _ _ _ _ _ (by omega) hk e
        exact i3 _ _ _ _ hl (by omega) (by omega)
    · intro l d t k hl hk hf
      have hs := skip_spec s k
      have hk1 := hs.2.2 hk
      rw [rest]
      split
      · next c =>
        have ho := opAt_spec s (skip s k)
        have h0 : (opAt s (skip s k)).1 ≠ 0 := by
          intro e
          rw [e] at c
          simp [lev] at c
          omega
        refine (i2 _ _ _ (by omega) (by omega) (by omega)).bind fun a k1 e => ?_
        have := p2 _ _ _ _ _ (by omega) (by omega) e
        exact i3 _ _ _ _ hl (by omega) (by omega)
      · exact .ok
    · intro d k0 hk hf
      have hs := skip_spec s k0
      have hk1 := hs.2.2 hk
      rw [args]
      split
      · exact .ok
      · refine (i6 _ _ (by omega) (by omega)).bind fun a k1 e => ?_
        have := p6 _ _ _ _ hk1 e
        exact i5 _ _ _ (by omega) (by omega)
    · intro d a k0 hk hf
      have hs := skip_spec s k0
      have hk1 := hs.2.2 hk
      rw [more]
      split
      · next c =>
        have hlt := nx_lt (s := s) (k := skip s k0) (by omega)
        refine (i6 _ _ (by omega) (by omega)).bind fun a k1 e => ?_
        have := p6 _ _ _ _ (by omega) e
        exact i5 _ _ _ (by omega) (by omega)
      · split
        · exact .ok
        · exact .two
    · intro d k0 hk hf
      have hs := skip_spec s k0
      have hk1 := hs.2.2 hk
      have hx : GoodR (expr L s f 1 d (skip s k0)) := i2 _ _ _ (Nat.le_refl _) hk1 (by omega)
      rw [arg]
      split
      · exact hx
      · split
        · split
          · exact .two
          · exact .ok
        · exact hx
theorem parse_nz : GoodR (parse L s) := by
  unfold parse
  split
  · exact .four
  · split
    · exact .two
    · next h =>
      have hz := nx_lt (s := s) (k := 0) (by omega)
      refine ((nz L s _).2.1 1 0 1 (Nat.le_refl _) hz (Nat.le_refl _)).bind fun a k _ => ?_
      split
      · exact .two
      · exact .ok
end
def kOf : Rs T → Nat
  | .ok _ _ => 0
  | .err k _ => k
def cOf : Rs T → Int
  | .ok _ _ => 0
  | .err _ c => c
theorem OutQ.open {w : World} {r : Rs T} {e : Ending} {w' : World} (h : OutQ w r e w') :
    ∃ (a n : Int) (s1 : ByteArray) (r1 t1 : Rf) (p : Option Addr) (m c : Nat), e = .returned (.tuple #[NV a n s1 r1 t1 (.slice p m c), .int .i64 (kOf r : Nat), .int .i64 (cOf r)]) ∧ Below w.heap.size w w' := by
  cases r with
  | ok t k =>
    obtain ⟨v, h1, h2, h3⟩ := h
    cases h2 with
    | mk hk hl hs => exact ⟨_, _, _, _, _, _, _, _, h1, h3⟩
  | err k c => exact ⟨0, 0, nul, .z, .z, none, 0, 0, h.1, h.2⟩
end Go.Proofs.YtomgjjngkffbbaaGreatDoor.fm
namespace Go.Proofs.YtomgjjngkffbbaaGreatDoor.ps
open Go.RowKit
open adr (C isC ckc)
theorem eqS_at {s : ByteArray} (h : 0 < s.size) : eqS s = ((((s[0]'h).toNat : Nat) : Int) == 61) := by
  obtain ⟨⟨l⟩⟩ := s
  cases l with
  | nil => cases h
  | cons a l =>
    have e : ((⟨⟨a :: l⟩⟩ : ByteArray).extract 0 1).toList = [a] := by
      rw [ByteArray.toList_eq]
      simp [ByteArray.data_extract]
    unfold eqS
    rw [e]
    show (a == 61 && ([] : List UInt8) == []) = ((a.toNat : Int) == 61)
    rw [Bool.eq_iff_iff]
    simp only [Bool.and_eq_true, beq_iff_eq]
    constructor
    · rintro ⟨rfl, -⟩; rfl
    · intro h
      refine ⟨?_, by first | rfl | trivial⟩
      have h2 : a.toNat = 61 := by omega
      exact UInt8.toNat_inj.1 h2
theorem bad_code (s : ByteArray) : (fm.cOf (fm.parse fm.lexP s) = 0 ∧ isBadF s = false) ∨ (fm.cOf (fm.parse fm.lexP s) ≠ 0 ∧ isBadF s = true) := by
  unfold isBadF
  cases h : fm.parse fm.lexP s with
  | ok t k => exact .inl ⟨rfl, rfl⟩
  | err k c => exact .inr ⟨fm.parse_nz fm.lexP s k c h, rfl⟩
set_option maxRecDepth 100000 in
set_option maxHeartbeats 4000000 in
/-- A text that is not empty. -/
theorem rtext_any (s : ByteArray) (w : World) (h0 : s.size ≠ 0) : Calls Tryz.prog 25 #[.string s] w fun e w' => e = .returned (.int .i64 (ckT s)) ∧ Below w.heap.size w w' := by
  have he : s.toList.isEmpty = false := by
    cases h : s.toList.isEmpty with
    | false => rfl
    | true => exact absurd (emp_yes h) h0
  by_cases h1 : 200 < s.size
  · have hI : (200 : Int) < (s.size : Int) := by omega
    rw [ckT_long h1]
    go_enter Tryz.func25, Tryz.ntmps25
    go_wp2_with fail
    go_ret
    exact ⟨rfl, Below.refl _ _⟩
  · have hI : ¬ (200 : Int) < (s.size : Int) := by omega
    have hz : 0 < s.size := by omega
    have hlI : (0 : Int) < (s.size : Int) := by omega
    have hq0 := eqS_at hz
    cases hq : eqS s with
    | false =>
      have hc : ((((s[0]'hz).toNat : Nat) : Int) == 61) = false := by rw [← hq0]; exact hq
      rw [ckT_const h0 (by omega) hq]
      clear hq0 hq
      go_enter Tryz.func25, Tryz.ntmps25
      go_wp2_with fail
      go_ret
      exact ⟨rfl, Below.refl _ _⟩
    | true =>
      have hc : ((((s[0]'hz).toNat : Nat) : Int) == 61) = true := by rw [← hq0]; exact hq
      have HQ : Hid (eqS s = true) := hq
      have HP : Hid (Calls Tryz.prog 39 #[.string s] w (fm.OutQ w (fm.parse fm.lexP s))) := fm.rparse_any s w _ rfl
      have HBC : Hid ((fm.cOf (fm.parse fm.lexP s) = 0 ∧ isBadF s = false) ∨ (fm.cOf (fm.parse fm.lexP s) ≠ 0 ∧ isBadF s = true)) := bad_code s
      clear hq0 hq
      generalize fm.parse fm.lexP s = RR at *
      go_enter Tryz.func25, Tryz.ntmps25
      go_wp2_with fail
      refine HP.out.mono ?_
      intro e w1 ho
      obtain ⟨a1, n1, s1, r1, t1, p1, m1, e1, rfl, hb1⟩ := ho.open
      have HB1 : Hid (Below w.heap.size w w1) := hb1
      obtain ⟨q, hq⟩ : ∃ q, fm.cOf RR = q := ⟨_, rfl⟩
      obtain ⟨q', hq'⟩ : ∃ q, fm.kOf RR = q := ⟨_, rfl⟩
      have HBD : Hid ((q = 0 ∧ isBadF s = false) ∨ (q ≠ 0 ∧ isBadF s = true)) := by rw [← hq]; exact HBC
      rw [hq, hq']
      clear ho hb1 HBC hq hq' HP
      by_cases h2 : q = 0
      · have HE0 : Hid (ckT s = 0) := by
          rcases HBD.out with ⟨-, hb⟩ | ⟨hb, -⟩
          · exact ckT_good h0 (by omega) HQ.out hb
          · exact absurd h2 hb
        subst h2
        go_wp2_with fail
        go_ret
        exact ⟨by rw [HE0.out]; rfl, HB1.out.alloc HB1.out.size _⟩
      · have HE0 : Hid (ckT s = 2) := by
          rcases HBD.out with ⟨hb, -⟩ | ⟨-, hb⟩
          · exact absurd hb h2
          · exact ckT_bad h0 (by omega) HQ.out hb
        go_wp2_with fail
        go_ret
        exact ⟨by rw [HE0.out]; rfl, HB1.out.alloc HB1.out.size _⟩
/-- What the loop has at hand: the list as it was. -/
abbrev RG (w1 : World) (gx oy ox : Nat) (y x : Fl) (wx : World) : Prop := wx.cell? ⟨gx, oy, none⟩ = some (.int .i64 y.c) ∧ wx.cell? ⟨gx, oy + 1, none⟩ = some (.int .i64 y.r) ∧ wx.cell? ⟨gx, ox, none⟩ = some (.int .i64 x.c) ∧ wx.cell? ⟨gx, ox + 1, none⟩ = some (.int .i64 x.r) ∧ Below w1.heap.size w1 wx
theorem rgb {w1 : World} {gx oy ox : Nat} {y x : Fl} {wx : World} (h : RG w1 gx oy ox y x wx) : Below w1.heap.size w1 wx := h.2.2.2.2
set_option maxRecDepth 100000 in
set_option maxHeartbeats 8000000 in
theorem rcheck_any (p : Option Addr) (c : Nat) (xs : List Fl) (w : World) (hx : FM w p xs) :
    Calls Tryz.prog 9 #[.slice p xs.length c] w fun e w' => (∃ t, e = .returned (.int .i64 t) ∧ Told xs t) ∧ Below w.heap.size w w' := by
  obtain ⟨n, hn⟩ : ∃ n, xs.length = n := ⟨_, rfl⟩
  have HN : Hid (xs.length = n) := hn
  rw [hn]
  have HX : Hid (FM w p xs) := hx
  clear hx hn
  go_enter Tryz.func9, Tryz.ntmps9
  by_cases h2 : n ≤ 200
  · have hl : ¬ (200 : Int) < (n : Int) := by omega
    have hl2 : (n : Int) ≤ 200 := by omega
    go_wp2_with fail
    go_loopw [3] (fun a wr => ∃ i : Nat, a = .int .i64 i ∧ i ≤ n ∧ FK xs i ∧ Below w.heap.size w wr) (fun a _ => n - (intOf a).toNat)
    case atStart => exact ⟨0, rfl, Nat.zero_le _, fun j hj => absurd hj (Nat.not_lt_zero _), Below.refl _ _⟩
    case round =>
      obtain ⟨i, rfl, hi, hF, hB⟩ := hrel
      have HK : Hid (FK xs i ∧ Below w.heap.size w wr) := ⟨hF, hB⟩
      clear hF hB
      by_cases hin : i < n
      · have hiN : (i : Int) < (n : Int) := by omega
        have hi0 : (0 : Int) ≤ (i : Int) := by omega
        obtain ⟨x, hx⟩ : ∃ x, xs[i]? = some x := ⟨_, List.getElem?_eq_getElem (by rw [HN.out]; exact hin)⟩
        have HXi : Hid (xs[i]? = some x) := hx
        obtain ⟨gx, ox, rfl, hgx⟩ := HX.out.at hx
        obtain ⟨q0, q1, q2⟩ := FM.cells (HX.out.below HK.out.2) hx
        clear hx
        go_wp2_with fail
        refine (rin_any x.c x.r _).mono ?_
        rintro e w1 ⟨rfl, hb1⟩
        have HW1 : Hid (Below w.heap.size w w1) := bnext HK.out.2 hb1 HK.out.2.size
        obtain ⟨b0, b1, b2⟩ := FM.cells (HX.out.below HW1.out) HXi.out
        clear hb1 q0 q1 q2
        cases hC : isC x.c x.r with
        | false =>
          have HC : Hid (isC x.c x.r = false) := hC
          clear hC
          go_wp2_with fail
          go_ret
          exact ⟨⟨1, rfl, HK.out.1.found (by rw [HN.out]; exact h2) HXi.out (cd_range HXi.out HC.out) (by decide)⟩, HW1.out⟩
        | true =>
          have HC : Hid (isC x.c x.r = true) := hC
          clear hC
          go_upto_region 9 with fail
          go_cut [39] (fun s39 wx => ∃ b : Bool, s39 = .bool b ∧ b = ordB xs i x ∧ Below w1.heap.size w1 wx)
          case first =>
            by_cases hz : i = 0
            · subst hz
              go_quiet (fail)
              go_wp2_with fail
              go_meet
              case rel => exact ⟨false, rfl, rfl, drewN_below _ _⟩
            · obtain ⟨k, rfl⟩ : ∃ k, i = k + 1 := ⟨i - 1, by omega⟩
              obtain ⟨y, hy⟩ : ∃ y, xs[k]? = some y := ⟨_, List.getElem?_eq_getElem (by rw [HN.out]; omega)⟩
              have HY : Hid (xs[k]? = some y) := hy
              obtain ⟨y0, y1, -⟩ := FM.cells (HX.out.below HW1.out) hy
              have SOF : Hid (∀ wx, Below w1.heap.size w1 wx → RG w1 gx (ox + k * 3) (ox + (k + 1) * 3) y x wx) := fun wx hb => ⟨(hb.cell (p := ⟨gx, _, none⟩) (Nat.lt_of_lt_of_le hgx HW1.out.size)).trans y0, (hb.cell (p := ⟨gx, _, none⟩) (Nat.lt_of_lt_of_le hgx HW1.out.size)).trans y1, (hb.cell (p := ⟨gx, _, none⟩) (Nat.lt_of_lt_of_le hgx HW1.out.size)).trans b0, (hb.cell (p := ⟨gx, _, none⟩) (Nat.lt_of_lt_of_le hgx HW1.out.size)).trans b1, hb⟩
              have h0d : RG w1 gx (ox + k * 3) (ox + (k + 1) * 3) y x w1.drew := SOF.out _ (Below.refl _ _).drew
              have e1 : ((k + 1 : Nat) : Int) = (k : Int) + 1 := rfl
              have hk0 : (0 : Int) < (k : Int) + 1 := by omega
              have hk00 : (0 : Int) ≤ (k : Int) := by omega
              have hkN : (k : Int) < (n : Int) := by omega
              have hk200 : (k : Int) ≤ 200 := by omega
              have hk1N : (k : Int) + 1 < (n : Int) := by omega
              have hk10 : (0 : Int) ≤ (k : Int) + 1 := by omega
              have hk1t : ((k : Int) + 1).toNat = k + 1 := by omega
              have hw1' : IntKind.i64.wrap ((k : Int) + 1 - 1) = (k : Int) := by rw [Int.add_sub_cancel]; exact Go.IntWalk.i64_in _ (by omega)
              have hw2' : IntKind.i64.wrap (k : Int) = (k : Int) := Go.IntWalk.i64_in _ (by omega)
              have hw3' : (k : Int) + 1 - 1 = (k : Int) := by omega
              rw [e1]
              clear hy e1 b0 b1 b2
              go_region_held3 (fun wx => RG w1 gx (ox + k * 3) (ox + (k + 1) * 3) y x wx) (first | exact h0d | exact SOF.out _ (bnext (rgb (by assumption)) (by assumption) (rgb (by assumption)).size)) (first | (go_at_call 24; refine (rahead_any y.c y.r x.c x.r _).mono ?_; rintro e w2 ⟨rfl, hb2⟩; have hw2 := bnext (rgb (by assumption)) hb2 (rgb (by assumption)).size))
              all_goals
                go_wp2_with fail
                go_meet
                case rel =>
                  refine ⟨_, rfl, ?_, hw2⟩
                  unfold ordB
                  simp only [HY.out]
                  first | rfl | (simp [lt]; done)
          case rest =>
          obtain ⟨b, rfl, hA, hbc⟩ := hcut
          have HWc : Hid (Below w.heap.size w wc) := bnext HW1.out hbc HW1.out.size
          have HA : Hid (b = ordB xs i x) := hA
          clear hA hbc b0 b1 b2 HW1
          cases b with
          | true =>
            go_wp2_with fail
            go_ret
            exact ⟨⟨5, rfl, HK.out.1.found (by rw [HN.out]; exact h2) HXi.out (cd_order HXi.out HC.out HA.out.symm) (by decide)⟩, HWc.out⟩
          | false =>
            obtain ⟨b0, b1, b2⟩ := FM.cells (HX.out.below HWc.out) HXi.out
            have HT : Hid (cd xs i = ckT x.s) := cd_text HXi.out HC.out HA.out.symm
            cases h0 : x.s.toList.isEmpty with
            | true =>
              have HE0 : Hid (x.s.size = 0) := emp_yes h0
              go_wp2_with fail
              go_ret
              exact ⟨⟨3, rfl, HK.out.1.found (by rw [HN.out]; exact h2) HXi.out (HT.out.trans (ckT_emp HE0.out)) (by decide)⟩, HWc.out⟩
            | false =>
              have HRT : Hid (Calls Tryz.prog 25 #[.string x.s] wc fun e w' => e = .returned (.int .i64 (ckT x.s)) ∧ Below wc.heap.size wc w') := rtext_any x.s wc (emp_no h0)
              obtain ⟨q, hq⟩ : ∃ q, ckT x.s = q := ⟨_, rfl⟩
              rw [hq] at HT HRT
              clear hq
              go_wp2_with fail
              refine HRT.out.mono ?_
              rintro e w2 ⟨rfl, hb2⟩
              have HB2 : Hid (Below w.heap.size w w2) := bnext HWc.out hb2 HWc.out.size
              clear hb2 HRT b0 b1 b2
              by_cases hk0 : q = 0
              · subst hk0
                go_wp2_with fail
                exact ⟨⟨i + 1, rfl, hin, HK.out.1.snoc HT.out, HB2.out⟩, by simp [intOf]; omega⟩
              · go_wp2_with fail
                go_ret
                exact ⟨⟨q, rfl, HK.out.1.found (by rw [HN.out]; exact h2) HXi.out HT.out hk0⟩, HB2.out⟩
      · have hin' : ¬ (i : Int) < (n : Int) := by omega
        go_wp2_with fail
        have e : i = n := by omega
        subst e
        go_ret
        exact ⟨⟨0, rfl, FK.none (by rw [HN.out]; exact HK.out.1) (by rw [HN.out]; exact h2)⟩, HK.out.2⟩
  · have hl : (200 : Int) < (n : Int) := by omega
    go_wp2_with fail
    go_ret
    exact ⟨⟨4, rfl, .inl ⟨by rw [HN.out]; omega, rfl⟩⟩, Below.refl _ _⟩
end Go.Proofs.YtomgjjngkffbbaaGreatDoor.ps
