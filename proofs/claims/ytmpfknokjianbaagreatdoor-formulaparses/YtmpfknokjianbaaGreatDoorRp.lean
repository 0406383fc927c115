/- The reference's Parse. Condition: none (the text may be any). -/
import Derived.Test.YtmpfknokjianbaaGreatDoorRm2
namespace Go.Proofs.YtmpfknokjianbaaGreatDoor.fm
open Go.RowKit
/-- What the reference's Parse answers. -/
def OutQ (w : World) (r : Rs T) (e : Ending) (w' : World) : Prop :=
  match r with
  | .ok t _ => ∃ v, e = .returned (.tuple #[v, .int .i64 0, .int .i64 0]) ∧ Nd w' (Own w w') v t ∧ Below w.heap.size w w'
  | .err k c => e = .returned (.tuple #[NV 0 0 nul .z .z (.slice none 0 0), .int .i64 k, .int .i64 c]) ∧ Below w.heap.size w w'
theorem rparse_long (s : ByteArray) (w : World) (h : 200 < s.size) : Calls Tryz.prog 6 #[.string s] w (OutQ w (.err 0 4)) := by
  have hI : (200 : Int) < (s.size : Int) := by omega
  have hr := blk_new w (.cells NZ 28)
  have hb : Below w.heap.size w (w.alloc (.cells NZ 28)) := (Below.refl _ _).alloc (Nat.le_refl _) _
  obtain ⟨⟨d0, d1, d2, d3, d4, d5, d6, d7, d8, d9, d10, d11⟩, df⟩ := cells12 hr
  go_enter Tryz.func6, Tryz.ntmps6
  go_wp2_with fail
  clear d0 d1 d2 d3 d4 d5 d6 d7 d8 d9 d10 d11 df
  obtain ⟨⟨b0, b1, b2, b3, b4, b5, b6, b7, b8, b9, b10, b11⟩, bf⟩ := cells12 hr
  exact bodyPost_ret (v := .tuple #[NV 0 0 nul .z .z (.slice none 0 0), .int .i64 0, .int .i64 4]) (by simp [results, Tryz.results6, go_sem, b0, b1, b2, b3, b4, b5, b6, b7, b8, b9, b10, b11]) rfl ⟨rfl, hb⟩
theorem rparse_no (s : ByteArray) (w : World) (h : s.size ≤ 200) (hn : nx s 0 ≠ 61) : Calls Tryz.prog 6 #[.string s] w (OutQ w (.err 0 2)) := by
  have hI : ¬ (200 : Int) < (s.size : Int) := by omega
  have hr := blk_new w (.cells NZ 28)
  have hb : Below w.heap.size w (w.alloc (.cells NZ 28)) := (Below.refl _ _).alloc (Nat.le_refl _) _
  obtain ⟨⟨d0, d1, d2, d3, d4, d5, d6, d7, d8, d9, d10, d11⟩, df⟩ := cells12 hr
  by_cases hz : 0 < s.size
  · have he : s.toList.isEmpty = false := by
      rw [ByteArray.toList_eq]
      cases hl : s.data.toList with
      | nil =>
        exfalso
        have : s.size = 0 := by
          show s.data.size = 0
          rw [← Array.length_toList, hl]
          rfl
        omega
      | cons a r => rfl
    have hc : (((s[0].toNat : Nat) : Int) != 61) = true := by rw [bne_iff_ne]; rw [nx_in hz] at hn; omega
    have hlI : (0 : Int) < (s.size : Int) := by omega
    clear hn
    go_enter Tryz.func6, Tryz.ntmps6
    go_wp2_with fail
    clear d0 d1 d2 d3 d4 d5 d6 d7 d8 d9 d10 d11 df
    obtain ⟨⟨b0, b1, b2, b3, b4, b5, b6, b7, b8, b9, b10, b11⟩, bf⟩ := cells12 hr
    exact bodyPost_ret (v := .tuple #[NV 0 0 nul .z .z (.slice none 0 0), .int .i64 0, .int .i64 2]) (by simp [results, Tryz.results6, go_sem, b0, b1, b2, b3, b4, b5, b6, b7, b8, b9, b10, b11]) rfl ⟨rfl, hb⟩
  · have he : s.toList.isEmpty = true := by
      rw [ByteArray.toList_eq]
      have : s.data.toList = [] := List.eq_nil_of_length_eq_zero (by rw [Array.length_toList]; show s.size = 0; omega)
      rw [this]
      rfl
    clear hn
    go_enter Tryz.func6, Tryz.ntmps6
    go_wp2_with fail
    clear d0 d1 d2 d3 d4 d5 d6 d7 d8 d9 d10 d11 df
    obtain ⟨⟨b0, b1, b2, b3, b4, b5, b6, b7, b8, b9, b10, b11⟩, bf⟩ := cells12 hr
    exact bodyPost_ret (v := .tuple #[NV 0 0 nul .z .z (.slice none 0 0), .int .i64 0, .int .i64 2]) (by simp [results, Tryz.results6, go_sem, b0, b1, b2, b3, b4, b5, b6, b7, b8, b9, b10, b11]) rfl ⟨rfl, hb⟩
set_option maxRecDepth 100000 in
set_option maxHeartbeats 8000000 in
theorem rparse_go (s : ByteArray) (w : World) (hs : s.size ≤ 200) (hz : 0 < s.size) (hn : nx s 0 = 61) (X : Rs T) (hl : ∀ pb w1, PD w1 pb s 1 0 0 0 → Calls Tryz.prog 14 #[ptr pb, .int .i64 1] w1 (OutR w1 pb s 0 0 X)) :
    Calls Tryz.prog 6 #[.string s] w (OutQ w (X.bind fun t k => if skip s k < s.size then .err (skip s k) 2 else .ok t 0)) := by
  have hI : ¬ (200 : Int) < (s.size : Int) := by omega
  have HL : Hid (∀ pb w1, PD w1 pb s 1 0 0 0 → Calls Tryz.prog 14 #[ptr pb, .int .i64 1] w1 (OutR w1 pb s 0 0 X)) := hl
  have he : s.toList.isEmpty = false := by
    rw [ByteArray.toList_eq]
    cases hl : s.data.toList with
    | nil =>
      exfalso
      have : s.size = 0 := by
        show s.data.size = 0
        rw [← Array.length_toList, hl]
        rfl
      omega
    | cons a r => rfl
  have hc : (((s[0].toNat : Nat) : Int) != 61) = false := by rw [bne_eq_false_iff_eq]; rw [nx_in hz] at hn; omega
  have hlI : (0 : Int) < (s.size : Int) := by omega
  clear hn hl
  have hr : ((w.alloc (.cells NZ 28)).alloc (.cells #[.string s, .int .i64 1, .int .i64 0, .int .i64 0, .int .i64 0] 47)).heap[w.heap.size]? = some (.cells NZ 28 (0, 0)) := by rw [Below.heap_alloc _ _ _ (by simp)]; exact blk_new _ _
  have hP : PD ((w.alloc (.cells NZ 28)).alloc (.cells #[.string s, .int .i64 1, .int .i64 0, .int .i64 0, .int .i64 0] 47)) (w.heap.size + 1) s 1 0 0 0 := by
    unfold PD
    have := blk_new (w.alloc (.cells NZ 28)) (.cells #[.string s, .int .i64 1, .int .i64 0, .int .i64 0, .int .i64 0] 47)
    simpa using this
  have hK : Kp (· = w.heap.size + 1) w ((w.alloc (.cells NZ 28)).alloc (.cells #[.string s, .int .i64 1, .int .i64 0, .int .i64 0, .int .i64 0] 47)) := ((Kp.refl _ w).alloc _).alloc _
  go_enter Tryz.func6, Tryz.ntmps6
  go_wp2_with fail
  go_at_call 14
  generalize ((w.alloc (.cells NZ 28)).alloc (.cells #[.string s, .int .i64 1, .int .i64 0, .int .i64 0, .int .i64 0] 47)) = w1 at *
  obtain ⟨pb, hpb⟩ : ∃ pb, w.heap.size + 1 = pb := ⟨_, rfl⟩
  rw [hpb] at hP hK ⊢
  refine (HL.out pb _ hP).mono ?_
  intro e w2 ho
  obtain ⟨a1, n1, s1, r1, t1, p1, m1, e1, u, j, wr', bd, rfl, hN, hP2, hj, hK2, hX⟩ := ho.open
  have HX : Hid _ := hX
  have HPB : Hid (w.heap.size + 1 = pb) := hpb
  clear hX ho HL hpb
  have hrp : w.heap.size ≠ pb := by have := HPB.out; omega
  have hr1' := hr
  have hr2 := hK2.blk hr hrp
  have hKw2 := hK.trans hK2 (fun n e => .inl e)
  have HLE : Hid (w.heap.size ≤ w1.heap.size) := hK.size
  have hpl := hP2.lt
  have hK3 : Kp (fun _ => False) w2 (w2.alloc (.cells (N12 a1 n1 s1 r1 t1 (.slice p1 m1 e1)) 28)) := (Kp.refl _ _).alloc _
  have hr3 := hK3.blk hr2 id
  have hP3 := hP2.alloc (.cells (N12 a1 n1 s1 r1 t1 (.slice p1 m1 e1)) 28)
  have hn3 := blk_new w2 (.cells (N12 a1 n1 s1 r1 t1 (.slice p1 m1 e1)) 28)
  have hN3 := hN.next hK3 (fun n e => e.elim)
  have hKw3 := hKw2.trans hK3 (fun n e => e.elim)
  have hnp : w2.heap.size ≠ pb := by omega
  have HNR : Hid (w.heap.size < w2.heap.size) := by have := HPB.out; unfold Hid; omega
  obtain ⟨⟨c0, c1, c2, c3, c4⟩, f0, f1, f2, f3, f4⟩ := hP3.cells
  have HT : Hid (∀ w, Calls Tryz.prog 15 #[.string s, .int .i64 j] w fun e w' => e = .returned (KV (tkR s j).kind ((tkR s j).a : Nat) ((tkR s j).e : Nat) (tkR s j).t) ∧ Below w.heap.size w w') := fun w => token_at s j w hs hj
  have HZ : Hid _ := tk_zero s j hj
  have HA : Hid ((tkR s j).a = skip s j) := (tk_spec s j hj).1
  generalize tkR s j = tk at *
  go_wp2_with fail
  go_at_call 15
  refine (HT.out _).mono ?_
  rintro e w4 ⟨rfl, hb4⟩
  clear c0 c1 c2 c3 c4 f0 f1 f2 f3 f4 HT
  generalize w2.alloc (.cells (N12 a1 n1 s1 r1 t1 (.slice p1 m1 e1)) 28) = w3 at *
  generalize w2.heap.size = nb at *
  have hb5 : Below w3.heap.size w3 (w4.alloc (.cells (K4 tk) 50)) := hb4.alloc hb4.size _
  have hP5 := hP3.below hb5
  have hr5 : (w4.alloc (.cells (K4 tk) 50)).heap[w.heap.size]? = some (.cells NZ 28 (0, 0)) := by rw [hb5.block _ (lt_blk hr3)]; exact hr3
  have hn5 : (w4.alloc (.cells (K4 tk) 50)).heap[nb]? = some (.cells (N12 a1 n1 s1 r1 t1 (.slice p1 m1 e1)) 28 (0, 0)) := by rw [hb5.block _ (lt_blk hn3)]; exact hn3
  have hk5 := blk_new w4 (.cells (K4 tk) 50)
  have hN5 : Nd (w4.alloc (.cells (K4 tk) 50)) (Own w1 (w4.alloc (.cells (K4 tk) 50))) (NV a1 n1 s1 r1 t1 (.slice p1 m1 e1)) u := hN3.mono (fun n hn => hb5.block n hn.2) (fun n hn => ⟨hn.1, Nat.lt_of_lt_of_le hn.2 hb5.size⟩)
  have hKw5 := hKw3.below hb5
  go_upto_region 8 with fail
  generalize w4.alloc (.cells (K4 tk) 50) = w5 at *
  generalize w4.heap.size = kb at *
  clear hP3 hr3 hn3 hN3 hKw3 hb5 hb4 hP2 hr2 hKw2 hP hr hK3
  obtain ⟨⟨c0, c1, c2, c3, c4⟩, f0, f1, f2, f3, f4⟩ := hP5.cells
  obtain ⟨⟨z0, z1, z2, z3⟩, y0, y1, y2, y3⟩ := cells4f hk5
  by_cases hbd : bd = 0
  · have hb0 : (bd == 0) = true := beq_iff_eq.2 hbd
    have hb1 : (bd != 0) = false := by rw [bne, hb0]; rfl
    by_cases hkz : tk.kind = 0
    · have hk0 : (tk.kind != 0) = false := by rw [bne_eq_false_iff_eq]; exact hkz
      have HSK : Hid (¬ skip s j < s.size) := HZ.out.1 hkz
      have HBD : Hid (bd = 0) := hbd
      clear hbd hkz HZ
      obtain ⟨⟨g0, g1, g2, g3, g4, g5, g6, g7, g8, g9, g10, g11⟩, gf⟩ := cells12 hn5
      obtain ⟨⟨d0, d1, d2, d3, d4, d5, d6, d7, d8, d9, d10, d11⟩, df⟩ := cells12 hr5
      go_wp2_with fail
      clear c0 c1 c2 c3 c4 f0 f1 f2 f3 f4 z0 z1 z2 z3 y0 y1 y2 y3 g0 g1 g2 g3 g4 g5 g6 g7 g8 g9 g10 g11 gf d0 d1 d2 d3 d4 d5 d6 d7 d8 d9 d10 d11 df
      refine fin12 hr5 (Q := bodyPost _ _ _ _ _) ?_
      intro w9 hq9 hk9
      obtain ⟨⟨b0, b1, b2, b3, b4, b5, b6, b7, b8, b9, b10, b11⟩, bf⟩ := cells12 hq9
      refine bodyPost_ret (v := .tuple #[NV a1 n1 s1 r1 t1 (.slice p1 m1 e1), .int .i64 0, .int .i64 0]) (by simp [results, Tryz.results6, go_sem, b0, b1, b2, b3, b4, b5, b6, b7, b8, b9, b10, b11]) rfl ?_
      have q1 := HPB.out
      have q2 := HLE.out
      have q3 := HNR.out
      rcases HX.out with ⟨k', hx, _, _, hsk⟩ | ⟨f, _, _, hb⟩
      · have hR : (X.bind fun t k => if skip s k < s.size then .err (skip s k) 2 else .ok t 0) = Rs.ok u 0 := by
          rw [hx]
          show (if skip s k' < s.size then Rs.err (skip s k') 2 else Rs.ok u 0) = _
          rw [if_neg (by rw [← hsk]; exact HSK.out)]
        rw [hR]
        have hB : Below w.heap.size w w9 := kp_below (hKw5.trans hk9 (fun n e => by right; omega)) (by omega)
        refine ⟨_, rfl, ?_, hB⟩
        exact hN5.mono (fun n hn => hk9.block n hn.2 (by have := hn.1; have := lt_blk hr1'; omega)) (fun n hn => ⟨by have := hn.1; omega, Nat.lt_of_lt_of_le hn.2 hk9.size⟩)
      · exact absurd HBD.out hb
    · have hk0 : (tk.kind != 0) = true := by rw [bne_iff_ne]; exact hkz
      have HSK : Hid (skip s j < s.size) := by
        cases Nat.lt_or_ge (skip s j) s.size with
        | inl h => exact h
        | inr h => exact absurd (HZ.out.2 (by omega)) hkz
      have HBD : Hid (bd = 0) := hbd
      clear hkz HZ
      go_wp2_with fail
      go_at_call 16
      subst hbd
      refine (fail_first pb j 0 wr' s tk.a 2 _ hP5).mono ?_
      rintro e w6 ⟨rfl, hP6, hK6⟩
      clear c0 c1 c2 c3 c4 f0 f1 f2 f3 f4 z0 z1 z2 z3 y0 y1 y2 y3
      have hr6 := hK6.blk hr5 hrp
      have hKw6 := hKw5.trans hK6 (fun n e => .inl e)
      obtain ⟨⟨c0, c1, c2, c3, c4⟩, f0, f1, f2, f3, f4⟩ := hP6.cells
      obtain ⟨⟨d0, d1, d2, d3, d4, d5, d6, d7, d8, d9, d10, d11⟩, df⟩ := cells12 hr6
      go_wp2_with fail
      go_region
      clear c0 c1 c2 c3 c4 f0 f1 f2 f3 f4 d0 d1 d2 d3 d4 d5 d6 d7 d8 d9 d10 d11 df
      go_wp2_with fail
      refine fin12 hr6 (Q := fun W => bodyPost _ _ _ _ _ W.drew) ?_
      intro w9 hq9 hk9
      obtain ⟨⟨b0, b1, b2, b3, b4, b5, b6, b7, b8, b9, b10, b11⟩, bf⟩ := cells12 hq9
      refine bodyPost_ret (v := .tuple #[NV 0 0 nul .z .z (.slice none 0 0), .int .i64 (tk.a : Nat), .int .i64 2]) (by simp [results, Tryz.results6, go_sem, b0, b1, b2, b3, b4, b5, b6, b7, b8, b9, b10, b11]) rfl ?_
      have q1 := HPB.out
      have q2 := HLE.out
      have q3 := HNR.out
      have hB : Below w.heap.size w w9 := kp_below (hKw6.trans hk9 (fun n e => by right; omega)) (by omega)
      rcases HX.out with ⟨k', hx, hbz, _, hsk⟩ | ⟨f, hx, hwf, hb⟩
      · have hR : (X.bind fun t k => if skip s k < s.size then .err (skip s k) 2 else .ok t 0) = Rs.err (skip s j) 2 := by
          rw [hx]
          show (if skip s k' < s.size then Rs.err (skip s k') 2 else Rs.ok u 0) = _
          rw [if_pos (by rw [← hsk]; exact HSK.out), hsk]
        rw [hR]
        exact ⟨by rw [HA.out], hB.drew⟩
      · exact absurd rfl hb
  · have hb0 : (bd == 0) = false := beq_eq_false_iff_ne.2 hbd
    have hb1 : (bd != 0) = true := by rw [bne, hb0]; rfl
    have HBD : Hid (bd ≠ 0) := hbd
    clear hbd HZ
    obtain ⟨⟨d0, d1, d2, d3, d4, d5, d6, d7, d8, d9, d10, d11⟩, df⟩ := cells12 hr5
    go_wp2_with fail
    go_region
    clear c0 c1 c2 c3 c4 f0 f1 f2 f3 f4 d0 d1 d2 d3 d4 d5 d6 d7 d8 d9 d10 d11 df
    go_wp2_with fail
    refine fin12 hr5 (Q := fun W => bodyPost _ _ _ _ _ W.drew) ?_
    intro w9 hq9 hk9
    obtain ⟨⟨b0, b1, b2, b3, b4, b5, b6, b7, b8, b9, b10, b11⟩, bf⟩ := cells12 hq9
    refine bodyPost_ret (v := .tuple #[NV 0 0 nul .z .z (.slice none 0 0), .int .i64 wr', .int .i64 bd]) (by simp [results, Tryz.results6, go_sem, b0, b1, b2, b3, b4, b5, b6, b7, b8, b9, b10, b11]) rfl ?_
    have q1 := HPB.out
    have q2 := HLE.out
    have q3 := HNR.out
    have hB : Below w.heap.size w w9 := kp_below (hKw5.trans hk9 (fun n e => by right; omega)) (by omega)
    rcases HX.out with ⟨k', hx, hbz, _, hsk⟩ | ⟨f, hx, hwf, hb⟩
    · exact absurd hbz HBD.out
    · have hR : (X.bind fun t k => if skip s k < s.size then .err (skip s k) 2 else .ok t 0) = Rs.err f bd := by rw [hx]; rfl
      rw [hR, hwf]
      exact ⟨rfl, hB.drew⟩
end Go.Proofs.YtmpfknokjianbaaGreatDoor.fm
