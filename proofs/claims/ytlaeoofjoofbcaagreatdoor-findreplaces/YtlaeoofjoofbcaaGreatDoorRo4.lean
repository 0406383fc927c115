
/- The reference's One at what is negative. Conditions: as each theorem says. -/
import Derived.Test.YtlaeoofjoofbcaaGreatDoorRm2
namespace Go.Proofs.YtlaeoofjoofbcaaGreatDoor.fm
open Go.RowKit
set_option maxRecDepth 100000 in
set_option maxHeartbeats 8000000 in
theorem rone_neg_full (pb k d : Nat) (wr : Int) (s : ByteArray) (hs : s.size ≤ 200) (w : World) (h : PD w pb s k wr 0 d) (hk : k ≤ s.size) (t : Tk) (ht : tkR s k = t) (hc : t.kind = 4) (hx : (t.t.toList == [45]) = true) (hd : d = 30) :
    Calls Tryz.prog 51 #[ptr pb] w (OutR w pb s d wr (.err t.a 4)) := by
  have hte : t.e ≤ s.size := ht ▸ (tk_spec s k hk).2.2
  have HT : Hid (∀ w, Calls Tryz.prog 36 #[.string s, .int .i64 k] w fun e w' => e = .returned (KV (tkR s k).kind ((tkR s k).a : Nat) ((tkR s k).e : Nat) (tkR s k).t) ∧ Below w.heap.size w w') := fun w => token_at s k w hs hk
  rw [ht] at HT
  clear ht
  have HHC : Hid (t.kind = 4) := hc
  clear hc
  go_enter Tryz.func51, Tryz.ntmps51
  go_upto_region 1 with fail
  have h0 : PD (w.alloc (.cells NZ 62)) pb s k wr 0 d := h.below ((Below.refl _ _).alloc (Nat.le_refl _) _)
  have hr : (w.alloc (.cells NZ 62)).heap[w.heap.size]? = some (.cells NZ 62 (0, 0)) := blk_new _ _
  have hK0 : Kp (· = pb) w (w.alloc (.cells NZ 62)) := (Kp.refl _ w).alloc _
  have hlt := h.lt
  have hrl : w.heap.size < (w.alloc (.cells NZ 62)).heap.size := by simp
  obtain ⟨rb, hrb⟩ : ∃ rb, w.heap.size = rb := ⟨_, rfl⟩
  rw [hrb] at hr hrl hlt ⊢
  have HRB : Hid (w.heap.size = rb) := hrb
  clear hrb
  generalize w.alloc (.cells NZ 62) = w0 at *
  obtain ⟨⟨c0, c1, c2, c3, c4⟩, f0, f1, f2, f3, f4⟩ := h0.cells
  have hrp : rb ≠ pb := by omega
  go_cut [3] (fun s3 wx => ∃ kb, s3 = ptr kb ∧ KS w0 t kb wx)
  case first =>
    have hlt0 := h0.lt
    have hne : w0.heap.size ≠ pb := by omega
    have hne' : pb ≠ w0.heap.size := by omega
    have KK : Hid (∀ wx, Below w0.heap.size w0 wx → wx.cell? ⟨pb, 0, none⟩ = some (.string s) ∧ wx.cell? ⟨pb, 1, none⟩ = some (.int .i64 k)) := fun wx hb => ⟨(hb.cell (p := ⟨pb, 0, none⟩) hlt0).trans c0, (hb.cell (p := ⟨pb, 1, none⟩) hlt0).trans c1⟩
    clear c0 c1 c2 c3 c4 f0 f1 f2 f3 f4
    go_region_held3 (fun wx => wx.cell? ⟨pb, 0, none⟩ = some (.string s) ∧ wx.cell? ⟨pb, 1, none⟩ = some (.int .i64 k)) (exact KK.out _ (by (repeat (first | exact Below.refl _ _ | assumption | (refine Below.setCell ?_ (by first | exact Nat.le_refl _ | omega) _) | (refine Below.alloc ?_ (by first | exact Nat.le_refl _ | exact hb'.size | omega | (simp <;> omega)) _) | (refine Below.drew ?_))))) ((go_at_call 36; refine (HT.out _).mono ?_; rintro e w1 ⟨rfl, hb⟩; have hb' : Below w0.heap.size w0 w1 := (by first | exact kb1 hb | exact kb2 hb); first | (have hz := kz_a hb; have hz4 := cells4f hz; obtain ⟨⟨z0, z1, z2, z3⟩, y0, y1, y2, y3⟩ := hz4) | skip))
    all_goals
      go_wp2_with fail
      go_meet
      case rel => first | exact ⟨_, rfl, ks3 hb⟩ | exact ks2 hb (Q := fun W => ∃ kb, _ = ptr kb ∧ KS w0 t kb W) (fun w2 h2 => ⟨_, rfl, h2⟩)
  case rest =>
  obtain ⟨kb, rfl, hS⟩ := hcut
  clear c0 c1 c2 c3 c4 f0 f1 f2 f3 f4 HT
  have hlo := hS.lo
  have hne : kb ≠ pb := by have := h0.lt; omega
  have hner : kb ≠ rb := by omega
  have hP : PD wc pb s k wr 0 d := h0.below hS.below
  obtain ⟨⟨c0, c1, c2, c3, c4⟩, f0, f1, f2, f3, f4⟩ := hP.cells
  obtain ⟨⟨z0, z1, z2, z3⟩, y0, y1, y2, y3⟩ := cells4f hS.blk
  have hKx : Kp (· = pb) w wc := hK0.below hS.below
  have hrc : wc.heap[rb]? = some (.cells NZ 62 (0, 0)) := by rw [hS.below.block rb hrl]; exact hr
  have hPe := hP.setAt t.e
  have hKe : Kp (· = pb) wc (wc.setCell ⟨pb, 1, none⟩ (.int .i64 t.e)) := kpset _ _ _ _
  have hrce := hKe.blk hrc hrp
  have hkbe := hKe.blk hS.blk hne
  have hKw := hKx.trans hKe (fun n e => .inl e)
  rw [HHC.out] at z0
  go_wp2_with fail
  go_at_call 69
  subst hd
  refine (rdeeper_full pb t.e wr s t.a _ hPe).mono ?_
  rintro e w3 ⟨rfl, hP3, hK3⟩
  have hr3 := hK3.blk hrce hrp
  have hKw3 := hKw.trans hK3 (fun n e => .inl e)
  clear c0 c1 c2 c3 c4 f0 f1 f2 f3 f4 z0 z1 z2 z3 y0 y1 y2 y3
  obtain ⟨⟨d0, d1, d2, d3, d4, d5, d6, d7, d8, d9, d10, d11⟩, df⟩ := cells12 hr3
  go_wp2_with fail
  clear d0 d1 d2 d3 d4 d5 d6 d7 d8 d9 d10 d11 df
  refine fin12 hr3 (Q := bodyPost _ _ _ _ _) ?_
  intro w9 hq9 hk9
  obtain ⟨⟨b0, b1, b2, b3, b4, b5, b6, b7, b8, b9, b10, b11⟩, bf⟩ := cells12 hq9
  refine bodyPost_ret (v := NV 0 0 nul .z .z (.slice none 0 0)) (by simp [results, Tryz.results51, go_sem, b0, b1, b2, b3, b4, b5, b6, b7, b8, b9, b10, b11]) rfl ?_
  have hP9 := hP3.keep hk9 (fun e => hrp e.symm)
  have hK9 := hKw3.trans hk9 (fun n e => by right; rw [HRB.out, e]; exact Nat.le_refl _)
  exact ⟨_, _, t.e, rfl, Nd.leaf, hP9, hte, by omega, hK9⟩
set_option maxRecDepth 100000 in
set_option maxHeartbeats 8000000 in
theorem rone_neg (pb k d : Nat) (wr : Int) (s : ByteArray) (hs : s.size ≤ 200) (w : World) (h : PD w pb s k wr 0 d) (hk : k ≤ s.size) (t : Tk) (ht : tkR s k = t) (hc : t.kind = 4) (hx : (t.t.toList == [45]) = true) (hd : d < 30) (R : Rs T) (hrec : ∀ w1, PD w1 pb s t.e wr 0 (d + 1) → Calls Tryz.prog 51 #[ptr pb] w1 (OutR w1 pb s (d + 1) wr R)) :
    Calls Tryz.prog 51 #[ptr pb] w (OutR w pb s d wr (R.bind fun u k' => .ok (tNeg u) k')) := by
  have hte : t.e ≤ s.size := ht ▸ (tk_spec s k hk).2.2
  have HT : Hid (∀ w, Calls Tryz.prog 36 #[.string s, .int .i64 k] w fun e w' => e = .returned (KV (tkR s k).kind ((tkR s k).a : Nat) ((tkR s k).e : Nat) (tkR s k).t) ∧ Below w.heap.size w w') := fun w => token_at s k w hs hk
  rw [ht] at HT
  clear ht
  have HHC : Hid (t.kind = 4) := hc
  clear hc
  have HHREC : Hid (∀ w1, PD w1 pb s t.e wr 0 (d + 1) → Calls Tryz.prog 51 #[ptr pb] w1 (OutR w1 pb s (d + 1) wr R)) := hrec
  clear hrec
  go_enter Tryz.func51, Tryz.ntmps51
  go_upto_region 1 with fail
  have h0 : PD (w.alloc (.cells NZ 62)) pb s k wr 0 d := h.below ((Below.refl _ _).alloc (Nat.le_refl _) _)
  have hr : (w.alloc (.cells NZ 62)).heap[w.heap.size]? = some (.cells NZ 62 (0, 0)) := blk_new _ _
  have hK0 : Kp (· = pb) w (w.alloc (.cells NZ 62)) := (Kp.refl _ w).alloc _
  have hlt := h.lt
  have hrl : w.heap.size < (w.alloc (.cells NZ 62)).heap.size := by simp
  obtain ⟨rb, hrb⟩ : ∃ rb, w.heap.size = rb := ⟨_, rfl⟩
  rw [hrb] at hr hrl hlt ⊢
  have HRB : Hid (w.heap.size = rb) := hrb
  clear hrb
  generalize w.alloc (.cells NZ 62) = w0 at *
  obtain ⟨⟨c0, c1, c2, c3, c4⟩, f0, f1, f2, f3, f4⟩ := h0.cells
  have hrp : rb ≠ pb := by omega
  go_cut [3] (fun s3 wx => ∃ kb, s3 = ptr kb ∧ KS w0 t kb wx)
  case first =>
    have hlt0 := h0.lt
    have hne : w0.heap.size ≠ pb := by omega
    have hne' : pb ≠ w0.heap.size := by omega
    have KK : Hid (∀ wx, Below w0.heap.size w0 wx → wx.cell? ⟨pb, 0, none⟩ = some (.string s) ∧ wx.cell? ⟨pb, 1, none⟩ = some (.int .i64 k)) := fun wx hb => ⟨(hb.cell (p := ⟨pb, 0, none⟩) hlt0).trans c0, (hb.cell (p := ⟨pb, 1, none⟩) hlt0).trans c1⟩
    clear c0 c1 c2 c3 c4 f0 f1 f2 f3 f4
    go_region_held3 (fun wx => wx.cell? ⟨pb, 0, none⟩ = some (.string s) ∧ wx.cell? ⟨pb, 1, none⟩ = some (.int .i64 k)) (exact KK.out _ (by (repeat (first | exact Below.refl _ _ | assumption | (refine Below.setCell ?_ (by first | exact Nat.le_refl _ | omega) _) | (refine Below.alloc ?_ (by first | exact Nat.le_refl _ | exact hb'.size | omega | (simp <;> omega)) _) | (refine Below.drew ?_))))) ((go_at_call 36; refine (HT.out _).mono ?_; rintro e w1 ⟨rfl, hb⟩; have hb' : Below w0.heap.size w0 w1 := (by first | exact kb1 hb | exact kb2 hb); first | (have hz := kz_a hb; have hz4 := cells4f hz; obtain ⟨⟨z0, z1, z2, z3⟩, y0, y1, y2, y3⟩ := hz4) | skip))
    all_goals
      go_wp2_with fail
      go_meet
      case rel => first | exact ⟨_, rfl, ks3 hb⟩ | exact ks2 hb (Q := fun W => ∃ kb, _ = ptr kb ∧ KS w0 t kb W) (fun w2 h2 => ⟨_, rfl, h2⟩)
  case rest =>
  obtain ⟨kb, rfl, hS⟩ := hcut
  clear c0 c1 c2 c3 c4 f0 f1 f2 f3 f4 HT
  have hlo := hS.lo
  have hne : kb ≠ pb := by have := h0.lt; omega
  have hner : kb ≠ rb := by omega
  have hP : PD wc pb s k wr 0 d := h0.below hS.below
  obtain ⟨⟨c0, c1, c2, c3, c4⟩, f0, f1, f2, f3, f4⟩ := hP.cells
  obtain ⟨⟨z0, z1, z2, z3⟩, y0, y1, y2, y3⟩ := cells4f hS.blk
  have hKx : Kp (· = pb) w wc := hK0.below hS.below
  have hrc : wc.heap[rb]? = some (.cells NZ 62 (0, 0)) := by rw [hS.below.block rb hrl]; exact hr
  have hPe := hP.setAt t.e
  have hKe : Kp (· = pb) wc (wc.setCell ⟨pb, 1, none⟩ (.int .i64 t.e)) := kpset _ _ _ _
  have hrce := hKe.blk hrc hrp
  have hkbe := hKe.blk hS.blk hne
  have hKw := hKx.trans hKe (fun n e => .inl e)
  rw [HHC.out] at z0
  go_wp2_with fail
  go_at_call 69
  refine (rdeeper_go pb t.e d wr 0 s t.a _ hPe hd).mono ?_
  rintro e w3 ⟨rfl, hP3, hK3⟩
  have hr3 := hK3.blk hrce hrp
  have hKw3 := hKw.trans hK3 (fun n e => .inl e)
  have hsz3 := hKw3.size
  clear c0 c1 c2 c3 c4 f0 f1 f2 f3 f4 z0 z1 z2 z3 y0 y1 y2 y3
  go_wp2_with fail
  go_at_call 51
  refine (HHREC.out _ hP3).mono ?_
  intro e w4 ho
  obtain ⟨a1, n1, s1, r1, t1, p1, m1, e1, u, j, wr', bd, rfl, hN, hP4, hj, hK4, hX⟩ := ho.open
  have HX2 : Hid _ := hX
  clear hX ho HHREC
  have hr4 := hK4.blk hr3 hrp
  have hKw4 := hKw3.trans hK4 (fun n e => .inl e)
  have hK5 : Kp (fun _ => False) w4 (w4.alloc (.cells (N12 a1 n1 s1 r1 t1 (.slice p1 m1 e1)) 62)) := (Kp.refl _ _).alloc _
  have hr5 := hK5.blk hr4 id
  have hP5 := hP4.alloc (.cells (N12 a1 n1 s1 r1 t1 (.slice p1 m1 e1)) 62)
  have hn5 := blk_new w4 (.cells (N12 a1 n1 s1 r1 t1 (.slice p1 m1 e1)) 62)
  have hN5 := hN.next hK5 (fun n e => e.elim)
  have hKw5 := hKw4.trans hK5 (fun n e => e.elim)
  have hnp : w4.heap.size ≠ pb := by have := hP4.lt; omega
  have hnr : w4.heap.size ≠ rb := by have := lt_blk hr4; omega
  have HLO : Hid (w3.heap.size ≤ w4.heap.size) := hK4.size
  have hp3 : pb < w3.heap.size := hP3.lt
  obtain ⟨⟨c0, c1, c2, c3, c4⟩, f0, f1, f2, f3, f4⟩ := hP5.cells
  go_upto_region 33 with fail
  clear c0 c1 c2 c3 c4 f0 f1 f2 f3 f4
  generalize w4.alloc (.cells (N12 a1 n1 s1 r1 t1 (.slice p1 m1 e1)) 62) = w5 at *
  generalize w4.heap.size = nb at *
  have hP6 := hP5.setDeep d
  have hKs := kpset w5 pb 4 (.int .i64 (d : Nat))
  have hr6 := hKs.blk hr5 hrp
  have hn6 := hKs.blk hn5 hnp
  have hN6 := hN5.next hKs (fun n e => by left; omega)
  have hKw6 := hKw5.trans hKs (fun n e => .inl e)
  have HS6 : Hid (w3.heap.size ≤ (w5.setCell ⟨pb, 4, none⟩ (.int .i64 (d : Nat))).heap.size) := Nat.le_trans HLO.out (Nat.le_trans (Nat.le_of_lt (lt_blk hn5)) hKs.size)
  generalize w5.setCell ⟨pb, 4, none⟩ (.int .i64 (d : Nat)) = w6 at *
  have hK7 : Kp (fun _ => False) w6 (w6.alloc (.cells (N12 a1 n1 s1 r1 t1 (.slice p1 m1 e1)) 62)) := (Kp.refl _ _).alloc _
  have hr7 := hK7.blk hr6 id
  have hP7 := hP6.alloc (.cells (N12 a1 n1 s1 r1 t1 (.slice p1 m1 e1)) 62)
  have hg7 := blk_new w6 (.cells (N12 a1 n1 s1 r1 t1 (.slice p1 m1 e1)) 62)
  have hN7 := hN6.next hK7 (fun n e => e.elim)
  have hKw7 := hKw6.trans hK7 (fun n e => e.elim)
  have HSZ : Hid (w6.heap.size < (w6.alloc (.cells (N12 a1 n1 s1 r1 t1 (.slice p1 m1 e1)) 62)).heap.size) := by unfold Hid; simp
  obtain ⟨⟨g0, g1, g2, g3, g4, g5, g6, g7, g8, g9, g10, g11⟩, gf⟩ := cells12 hn6
  obtain ⟨⟨d0, d1, d2, d3, d4, d5, d6, d7, d8, d9, d10, d11⟩, df⟩ := cells12 hr7
  go_wp2_with fail
  clear g0 g1 g2 g3 g4 g5 g6 g7 g8 g9 g10 g11 gf d0 d1 d2 d3 d4 d5 d6 d7 d8 d9 d10 d11 df
  refine fin12 hr7 (Q := bodyPost _ _ _ _ _) ?_
  intro w9 hq9 hk9
  obtain ⟨⟨b0, b1, b2, b3, b4, b5, b6, b7, b8, b9, b10, b11⟩, bf⟩ := cells12 hq9
  refine bodyPost_ret (v := NV 7 0 nul .z .z (.slice (some ⟨w6.heap.size, 0, none⟩) 1 1)) (by simp [results, Tryz.results51, go_sem, b0, b1, b2, b3, b4, b5, b6, b7, b8, b9, b10, b11]) rfl ?_
  have hP9 := hP7.keep hk9 (fun e => hrp e.symm)
  have hK9 := hKw7.trans hk9 (fun n e => by right; rw [HRB.out, e]; exact Nat.le_refl _)
  have hrn : w6.heap.size ≠ rb := by have := lt_blk hr6; omega
  have hg9 := hk9.blk hg7 hrn
  have q1 := HSZ.out
  have q2 := hk9.size
  have q3 := HS6.out
  have hsz := hsz3
  have hN9 : Nd w9 (Own w w9) (NV 7 0 nul .z .z (.slice (some ⟨w6.heap.size, 0, none⟩) 1 1)) (tNeg u) := Nd.one hg9 ⟨by omega, by omega⟩ (Nat.le_refl _) (hN7.mono (fun n hn => hk9.block n hn.2 (by have := hn.1; have := lt_blk hr3; omega)) (fun n hn => ⟨by have := hn.1; omega, by have := hn.2; omega⟩))
  rcases HX2.out with ⟨k', rfl, rfl, rfl, hsk⟩ | ⟨f, rfl, rfl, hb⟩
  · exact ⟨_, j, rfl, hN9, hP9, hj, hsk, hK9⟩
  · exact ⟨_, _, j, rfl, hN9, hP9, hj, hb, hK9⟩
end Go.Proofs.YtlaeoofjoofbcaaGreatDoor.fm
