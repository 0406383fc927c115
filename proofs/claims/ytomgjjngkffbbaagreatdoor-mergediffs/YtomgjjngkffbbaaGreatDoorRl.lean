
/- The reference's operators, by how tight they hold. Conditions: as the theorem says. -/
import Derived.Test.YtomgjjngkffbbaaGreatDoorRm2
namespace Go.Proofs.YtomgjjngkffbbaaGreatDoor.fm
open Go.RowKit
theorem skip_mono {s : ByteArray} {a b : Nat} (h : a ≤ b) : skip s a ≤ skip s b := by
  fun_induction skip s a with
  | case1 a ha ih =>
    by_cases e : a = b
    · subst e; rw [skip_blank ha]; exact Nat.le_refl _
    · exact ih (by omega)
  | case2 a ha => exact Nat.le_trans h (skip_spec s b).1
/-- How far the reference's reader is from its end; nothing, where it has met a fault. -/
def mOf (w : World) (pb : Nat) (s : ByteArray) : Nat := if (w.cell? ⟨pb, 3, none⟩).map intOf = some 0 then s.size - skip s (((w.cell? ⟨pb, 1, none⟩).map intOf).getD 0).toNat + 1 else 0
theorem mOf_ok {w : World} {pb : Nat} {s : ByteArray} {k : Nat} {wr : Int} {d : Nat} (h : PD w pb s k wr 0 d) : mOf w pb s = s.size - skip s k + 1 := by
  unfold mOf
  rw [h.cells.1.2.2.2.1, h.cells.1.2.1]
  simp [intOf]
theorem mOf_bad {w : World} {pb : Nat} {s : ByteArray} {k : Nat} {wr c : Int} {d : Nat} (hc : c ≠ 0) (h : PD w pb s k wr c d) : mOf w pb s = 0 := by
  unfold mOf
  rw [h.cells.1.2.2.2.1]
  simp [intOf, hc]
theorem PD.alloc' {w : World} {pb : Nat} {s : ByteArray} {k : Nat} {wr bd : Int} {d : Nat} (h : PD w pb s k wr bd d) (o : Obj) : PD (w.alloc o) pb s k wr bd d := h.below ((Below.refl _ _).alloc (Nat.le_refl _) _)
theorem Nd.next3 {a b : World} {B nb : Nat} {v : Value} {t : T} (h : Nd a (fun n => (B ≤ n ∧ n < a.heap.size) ∧ n ≠ nb) v t) (hb : Below a.heap.size a b) : Nd b (fun n => (B ≤ n ∧ n < b.heap.size) ∧ n ≠ nb) v t :=
  h.mono (fun n hn => hb.block n hn.1.2) (fun _ hn => ⟨⟨hn.1.1, Nat.lt_of_lt_of_le hn.1.2 hb.size⟩, hn.2⟩)
/-- What holds around the loop: a node is read, and what is left; or a fault is noted. -/
def LR (w : World) (pb nb : Nat) (s : ByteArray) (l d k : Nat) (wr0 : Int) (L : Lex) (RR : Rs T) (wr : World) : Prop :=
  ∃ t cs, wr.heap[w.heap.size]? = some (.cells NZ 77 (0, 0)) ∧ wr.heap[nb]? = some (.cells cs 77 (0, 0)) ∧ Nd wr (fun b => (w.heap.size + 1 ≤ b ∧ b < wr.heap.size) ∧ b ≠ nb) (.agg cs) t ∧ Kp (· = pb) w wr ∧
    ((∃ j, PD wr pb s j wr0 0 d ∧ j ≤ s.size ∧ skip s k ≤ skip s j ∧ ∀ e w', OutR w pb s d wr0 (Chain L s l d t j) e w' → OutR w pb s d wr0 RR e w') ∨
     (∃ j f c, PD wr pb s j (f : Nat) c d ∧ j ≤ s.size ∧ c ≠ 0 ∧ ∀ e w', OutR w pb s d wr0 (.err f c) e w' → OutR w pb s d wr0 RR e w'))
section
variable {L : Lex} {s : ByteArray} (hs : s.size ≤ 200)
include hs
set_option maxRecDepth 100000 in
set_option maxHeartbeats 8000000 in
theorem rloose_of (pb k d l : Nat) (wr0 : Int) (w : World) (h : PD w pb s k wr0 0 d) (hk : k ≤ s.size) (hl1 : 1 ≤ l) (hl5 : l ≤ 5)
    (hone : ∀ w1, PD w1 pb s k wr0 0 d → Calls Tryz.prog 70 #[ptr pb] w1 (OutR w1 pb s d wr0 (Operand L s d k)))
    (hop : ∀ l' j w1, 1 ≤ l' → l' ≤ 5 → skip s k < j → j ≤ s.size → PD w1 pb s j wr0 0 d → Calls Tryz.prog 53 #[ptr pb, .int .i64 (l' : Nat)] w1 (OutR w1 pb s d wr0 (Expr L s l' d j))) :
    Calls Tryz.prog 53 #[ptr pb, .int .i64 (l : Nat)] w (OutR w pb s d wr0 (Expr L s l d k)) := by
  have hrl := h.lt
  obtain ⟨RR, hRR⟩ : ∃ RR, Expr L s l d k = RR := ⟨_, rfl⟩
  rw [hRR]
  rw [Expr_chain L s _ l d k rfl hl1 hl5 hk] at hRR
  have HRR : Hid ((Operand L s d k).bind (fun t k' => Chain L s l d t k') = RR) := hRR
  have HONE : Hid (∀ w1, PD w1 pb s k wr0 0 d → Calls Tryz.prog 70 #[ptr pb] w1 (OutR w1 pb s d wr0 (Operand L s d k))) := hone
  have HEX : Hid (∀ l' j w1, 1 ≤ l' → l' ≤ 5 → skip s k < j → j ≤ s.size → PD w1 pb s j wr0 0 d → Calls Tryz.prog 53 #[ptr pb, .int .i64 (l' : Nat)] w1 (OutR w1 pb s d wr0 (Expr L s l' d j))) := hop
  clear hRR hop hone
  have hK0 := (Kp.refl (· = pb) w).alloc (.cells NZ 77)
  have hP0 := h.alloc (.cells NZ 77)
  have hq0 := blk_new w (.cells NZ 77)
  go_enter Tryz.func53, Tryz.ntmps53
  go_wp2_with fail
  generalize w.alloc (.cells NZ 77) = w0 at *
  refine (HONE.out _ hP0).mono ?_
  intro e w1 ho
  have hs0 := lt_blk hq0
  obtain ⟨v, t, hev, hN1, hK1, hX⟩ : ∃ v t, e = .returned v ∧ Nd w1 (Own w0 w1) v t ∧ Kp (· = pb) w0 w1 ∧ ((∃ j, PD w1 pb s j wr0 0 d ∧ j ≤ s.size ∧ skip s k ≤ skip s j ∧ ∀ e w', OutR w pb s d wr0 (Chain L s l d t j) e w' → OutR w pb s d wr0 RR e w') ∨ (∃ j f c, PD w1 pb s j (f : Nat) c d ∧ j ≤ s.size ∧ c ≠ 0 ∧ ∀ e w', OutR w pb s d wr0 (.err f c) e w' → OutR w pb s d wr0 RR e w')) := by
    cases hx : Operand L s d k with
    | ok t k1 =>
      have hpg := Operand_prog L s hk hx
      rw [hx] at ho
      have h1 := HRR.out
      rw [hx] at h1
      obtain ⟨v, j, q1, q2, q3, q4, q5, q6⟩ := ho
      refine ⟨v, t, q1, q2, q6, .inl ⟨j, q3, q4, by rw [q5]; exact skip_mono (by omega), fun e w' hh => ?_⟩⟩
      rw [← h1]
      exact OutR.chain L s hl1 q4 hpg.2 q5 hh
    | err f c =>
      rw [hx] at ho
      have h1 := HRR.out
      rw [hx] at h1
      obtain ⟨v, t, j, q1, q2, q3, q4, q5, q6⟩ := ho
      exact ⟨v, t, q1, q2, q6, .inr ⟨j, f, c, q3, q4, q5, fun e w' hh => by rw [← h1]; exact hh⟩⟩
  subst hev
  clear ho HRR HONE
  have hKw1 := hK0.trans hK1 (fun n e => .inl e)
  cases hN1 with
  | @mk a1 n1 s1 r1 t1 p1 m1 e1 us0 ts0 hk' hl' hs' =>
  have hN1 := Nd.mk (k := a1) (n := n1) (s := s1) (r := r1) (t := t1) hk' hl' hs'
  clear hk' hl' hs'
  have hLR : LR w pb w1.heap.size s l d k wr0 L RR (w1.alloc (.cells (N12 a1 n1 s1 r1 t1 (.slice p1 m1 e1)) 77)) := by
    refine ⟨.nd a1 n1 s1 r1 t1 ts0, (N12 a1 n1 s1 r1 t1 (.slice p1 m1 e1)), ?_, blk_new _ _, ?_, hKw1.alloc _, ?_⟩
    · rw [Below.heap_alloc _ _ _ (by have := hK1.size; omega)]; exact hK1.blk hq0 (by omega)
    · exact hN1.mono (fun n hn => Below.heap_alloc _ _ _ hn.2) (fun n hn => ⟨⟨by have := hn.1; omega, by simp; have := hn.2; omega⟩, by have := hn.2; omega⟩)
    · rcases hX with ⟨j, q1, q2⟩ | ⟨j, f, c, q1, q2⟩
      · exact .inl ⟨j, q1.alloc _, q2⟩
      · exact .inr ⟨j, f, c, q1.alloc _, q2⟩
  have hnb : w.heap.size < w1.heap.size := by have := hK1.size; omega
  have hnp : w1.heap.size ≠ pb := by omega
  clear hN1 hX hKw1 hK1 hs0 hq0 hK0 hP0
  go_wp2_with fail
  generalize w1.alloc (.cells (N12 a1 n1 s1 r1 t1 (.slice p1 m1 e1)) 77) = wv at *
  generalize w1.heap.size = nb at *
  go_loopw [6, 7, 8] (fun _ _ _ wr => LR w pb nb s l d k wr0 L RR wr) (fun _ _ _ wr => mOf wr pb s)
  case atStart => exact hLR
  case round =>
    clear hLR
    obtain ⟨t, cs, hq, hb, hN, hK, hX⟩ := hrel
    rcases hX with ⟨j, hP, hj, hkj, hch⟩ | ⟨j, f, c, hP, hj, hc, hRR⟩
    · have HCH : Hid (∀ e w', OutR w pb s d wr0 (Chain L s l d t j) e w' → OutR w pb s d wr0 RR e w') := hch
      have HM : Hid (mOf wr pb s = s.size - skip s j + 1) := mOf_ok hP
      clear hch
      obtain ⟨⟨c0, c1, c2, c3, c4⟩, f0, f1, f2, f3, f4⟩ := hP.cells
      have HT : Hid (∀ w, Calls Tryz.prog 54 #[.string s, .int .i64 j] w fun e w' => e = .returned (KV (tkR s j).kind ((tkR s j).a : Nat) ((tkR s j).e : Nat) (tkR s j).t) ∧ Below w.heap.size w w') := fun w => token_at s j w hs hj
      have hsg := tk_sign s j hj
      have hte := (tk_spec s j hj).2.2
      generalize tkR s j = tk at *
      have HSG : Hid _ := hsg
      clear hsg
      go_upto_region 3 with fail
      go_cut [6] (fun s6 wx => ∃ kb, s6 = ptr kb ∧ KS wr tk kb wx)
      case first =>
        have hlt0 := hP.lt
        have hne : wr.heap.size ≠ pb := by omega
        have hne' : pb ≠ wr.heap.size := by omega
        have KK : Hid (∀ wx, Below wr.heap.size wr wx → wx.cell? ⟨pb, 0, none⟩ = some (.string s) ∧ wx.cell? ⟨pb, 1, none⟩ = some (.int .i64 j)) := fun wx hb => ⟨(hb.cell (p := ⟨pb, 0, none⟩) hlt0).trans c0, (hb.cell (p := ⟨pb, 1, none⟩) hlt0).trans c1⟩
        clear c0 c1 c2 c3 c4 f0 f1 f2 f3 f4
        go_region_held3 (fun wx => wx.cell? ⟨pb, 0, none⟩ = some (.string s) ∧ wx.cell? ⟨pb, 1, none⟩ = some (.int .i64 j)) (exact KK.out _ (by (repeat (first | exact Below.refl _ _ | assumption | (refine Below.setCell ?_ (by first | exact Nat.le_refl _ | omega) _) | (refine Below.alloc ?_ (by first | exact Nat.le_refl _ | exact hb'.size | omega | (simp <;> omega)) _) | (refine Below.drew ?_))))) ((go_at_call 54; refine (HT.out _).mono ?_; rintro e w1 ⟨rfl, hb⟩; have hb' : Below wr.heap.size wr w1 := (by first | exact kb1 hb | exact kb2 hb); first | (have hz := kz_a hb; have hz4 := cells4f hz; obtain ⟨⟨z0, z1, z2, z3⟩, y0, y1, y2, y3⟩ := hz4) | skip))
        all_goals
          go_wp2_with fail
          go_meet
          case rel => first | exact ⟨_, rfl, ks3 hb⟩ | exact ks2 hb (Q := fun W => ∃ kb, _ = ptr kb ∧ KS wr tk kb W) (fun w2 h2 => ⟨_, rfl, h2⟩)
      case rest =>
      obtain ⟨kb, rfl, hS⟩ := hcut
      clear c0 c1 c2 c3 c4 f0 f1 f2 f3 f4 HT
      have hPl := hP.lt
      have hlo := hS.lo
      have hne : kb ≠ pb := by omega
      have hlb := lt_blk hb
      have hlq := lt_blk hq
      have hner : kb ≠ nb := by omega
      have hPc : PD wc pb s j wr0 0 d := hP.below hS.below
      have hqc : wc.heap[w.heap.size]? = some (.cells NZ 77 (0, 0)) := by rw [hS.below.block _ hlq]; exact hq
      have hbc : wc.heap[nb]? = some (.cells cs 77 (0, 0)) := by rw [hS.below.block _ hlb]; exact hb
      have hNc := hN.next3 hS.below
      have hKc : Kp (· = pb) w wc := hK.below hS.below
      clear hN hK hP hq hb
      obtain ⟨⟨z0, z1, z2, z3⟩, y0, y1, y2, y3⟩ := cells4f hS.blk
      by_cases c4 : tk.kind = 4
      · have h4' : (tk.kind == 4) = true := beq_iff_eq.2 c4
        have hop := opAt_spec s (skip s j)
        obtain ⟨hsg1, hsg2⟩ := HSG.out.1 c4
        have HSO : Hid (sgnOf tk.t = (opAt s (skip s j)).1) := hsg1
        have HSE : Hid ((opAt s (skip s j)).1 ≠ 0 → tk.e = skip s j + (opAt s (skip s j)).2) := hsg2
        have HCS : Hid (l ≤ lev (opAt s (skip s j)).1 → Chain L s l d t j = (Expr L s (lev (opAt s (skip s j)).1 + 1) d (skip s j + (opAt s (skip s j)).2)).bind fun u k' => Chain L s l d (tTwo (opAt s (skip s j)).1 t u) k') := fun hv => Chain_some L s _ l d t j rfl hl1 hj hv
        have HCN : Hid (lev (opAt s (skip s j)).1 < l → Chain L s l d t j = .ok t (if 4 < l then j else skip s j)) := fun hv => Chain_none L s _ l d t j rfl hl1 hj hv
        clear HSG hsg1 hsg2 c4
        have HOP : Hid _ := hop
        clear hop
        generalize opAt s (skip s j) = opp at *
        obtain ⟨op, len⟩ := opp
        simp only at HSO HSE HCS HCN HOP
        go_wp2_with fail
        go_at_call 71
        refine (sign_any tk.t _).mono ?_
        rw [HSO.out]
        rintro e w3 ⟨rfl, hB3⟩
        have hP3 := hPc.below hB3
        have hq3 : w3.heap[w.heap.size]? = some (.cells NZ 77 (0, 0)) := by rw [hB3.block _ (lt_blk hqc)]; exact hqc
        have hb3 : w3.heap[nb]? = some (.cells cs 77 (0, 0)) := by rw [hB3.block _ (lt_blk hbc)]; exact hbc
        have hk3 : w3.heap[kb]? = some (.cells (K4 tk) 105 (0, 0)) := by rw [hB3.block _ (lt_blk hS.blk)]; exact hS.blk
        have hN3 := hNc.next3 hB3
        have hK3 : Kp (· = pb) w w3 := hKc.below hB3
        clear z0 z1 z2 z3 y0 y1 y2 y3 hNc hKc hPc hqc hbc hB3
        obtain ⟨⟨z0, z1, z2, z3⟩, y0, y1, y2, y3⟩ := cells4f hk3
        by_cases ho : op = 0
        · have hopz : ((op : Int) == 0) = true := by rw [beq_iff_eq]; omega
          have HCR : Hid (Chain L s l d t j = .ok t (if 4 < l then j else skip s j)) := HCN.out (by rw [ho]; simp [lev]; omega)
          clear HCN HCS HSE HSO HOP
          cases hN3 with
          | @mk a3 n3 s3 r3 t3 p3 m3 e3 us3 ts3 hk' hl' hs' =>
          have hN3 := Nd.mk (k := a3) (n := n3) (s := s3) (r := r3) (t := t3) hk' hl' hs'
          clear hk' hl' hs'
          obtain ⟨⟨b0, b1, b2, b3, b4, b5, b6, b7, b8, b9, b10, b11⟩, bf⟩ := cells12 hb3
          obtain ⟨⟨d0, d1, d2, d3, d4, d5, d6, d7, d8, d9, d10, d11⟩, df⟩ := cells12 hq3
          go_wp2_with (first | (go_at_call 72; refine (HTI.out _).mono ?_; rintro e w4 ⟨rfl, rfl⟩))
          clear b0 b1 b2 b3 b4 b5 b6 b7 b8 b9 b10 b11 bf d0 d1 d2 d3 d4 d5 d6 d7 d8 d9 d10 d11 df
          refine fin12 hq3 (Q := bodyPost _ _ _ _ _) ?_
          intro w9 hq9 hk9
          obtain ⟨⟨b0, b1, b2, b3, b4, b5, b6, b7, b8, b9, b10, b11⟩, bf⟩ := cells12 hq9
          refine bodyPost_ret (v := NV a3 n3 s3 r3 t3 (.slice p3 m3 e3)) (by simp [results, Tryz.results53, go_sem, b0, b1, b2, b3, b4, b5, b6, b7, b8, b9, b10, b11]) rfl ?_
          refine HCH.out _ _ ?_
          rw [HCR.out]
          exact ⟨_, j, rfl, hN3.mono (fun n hn => hk9.block n hn.1.2 (by have := hn.1.1; omega)) (fun n hn => ⟨by have := hn.1.1; omega, Nat.lt_of_lt_of_le hn.1.2 hk9.size⟩), hP3.keep hk9 (by omega), hj, by split <;> simp [skip_skip], hK3.trans hk9 (fun n e => by right; omega)⟩
        · have hopz : ((op : Int) == 0) = false := by rw [beq_eq_false_iff_ne]; omega
          have hop1 : 1 ≤ op := by omega
          have HTI : Hid (∀ w, Calls Tryz.prog 72 #[.int .i64 (op : Nat)] w fun e w' => e = .returned (.int .i64 (lev op : Nat)) ∧ w' = w) := fun w => tight_any op hop1 w
          have hle := lev_le op
          by_cases hv : lev op < l
          · have hvI : ((lev op : Nat) : Int) < (l : Int) := by omega
            have HCR : Hid (Chain L s l d t j = .ok t (if 4 < l then j else skip s j)) := HCN.out hv
            clear HCN HCS HSE HSO HOP
            cases hN3 with
            | @mk a3 n3 s3 r3 t3 p3 m3 e3 us3 ts3 hk' hl' hs' =>
            have hN3 := Nd.mk (k := a3) (n := n3) (s := s3) (r := r3) (t := t3) hk' hl' hs'
            clear hk' hl' hs'
            obtain ⟨⟨b0, b1, b2, b3, b4, b5, b6, b7, b8, b9, b10, b11⟩, bf⟩ := cells12 hb3
            obtain ⟨⟨d0, d1, d2, d3, d4, d5, d6, d7, d8, d9, d10, d11⟩, df⟩ := cells12 hq3
            go_wp2_with (first | (go_at_call 72; refine (HTI.out _).mono ?_; rintro e w4 ⟨rfl, rfl⟩))
            clear b0 b1 b2 b3 b4 b5 b6 b7 b8 b9 b10 b11 bf d0 d1 d2 d3 d4 d5 d6 d7 d8 d9 d10 d11 df
            refine fin12 hq3 (Q := bodyPost _ _ _ _ _) ?_
            intro w9 hq9 hk9
            obtain ⟨⟨b0, b1, b2, b3, b4, b5, b6, b7, b8, b9, b10, b11⟩, bf⟩ := cells12 hq9
            refine bodyPost_ret (v := NV a3 n3 s3 r3 t3 (.slice p3 m3 e3)) (by simp [results, Tryz.results53, go_sem, b0, b1, b2, b3, b4, b5, b6, b7, b8, b9, b10, b11]) rfl ?_
            refine HCH.out _ _ ?_
            rw [HCR.out]
            exact ⟨_, j, rfl, hN3.mono (fun n hn => hk9.block n hn.1.2 (by have := hn.1.1; omega)) (fun n hn => ⟨by have := hn.1.1; omega, Nat.lt_of_lt_of_le hn.1.2 hk9.size⟩), hP3.keep hk9 (by omega), hj, by split <;> simp [skip_skip], hK3.trans hk9 (fun n e => by right; omega)⟩
          · have hvI : ¬ ((lev op : Nat) : Int) < (l : Int) := by omega
            have HCR := HCS.out (by omega)
            have HCZ : Hid _ := HCR
            have hlen := HOP.out
            have hel := HSE.out (by omega)
            have hk2 : skip s j < tk.e := by omega
            have HEL : Hid (tk.e = skip s j + len) := hel
            clear HCN HCS HSE HSO HOP HCR hlen hel
            obtain ⟨⟨c0, c1, c2, c3, c4⟩, f0, f1, f2, f3, f4⟩ := hP3.cells
            go_wp2_with (first | (go_at_call 72; refine (HTI.out _).mono ?_; rintro e w4 ⟨rfl, rfl⟩))
            clear c0 c1 c2 c3 c4 f0 f1 f2 f3 f4 z0 z1 z2 z3 y0 y1 y2 y3 hk3 HTI
            have hPs := hP3.setAt tk.e
            have hKs := kpset w4 pb 1 (.int .i64 tk.e)
            have hqs := hKs.blk hq3 (by omega)
            have hbs := hKs.blk hb3 hnp
            have hNs := hN3.next2 hKs (fun n e => by left; omega)
            have hKws := hK3.trans hKs (fun n e => .inl e)
            clear hP3 hq3 hb3 hN3 hK3 hKs
            generalize w4.setCell ⟨pb, 1, none⟩ (.int .i64 tk.e) = ws at *
            have hss := hKws.size
            have HLBS : Hid (nb < ws.heap.size) := lt_blk hbs
            rw [show ((lev op : Nat) : Int) + 1 = ((lev op + 1 : Nat) : Int) from by omega]
            refine (HEX.out (lev op + 1) tk.e _ (by omega) (by omega) (by omega) hte hPs).mono ?_
            intro e w5 ho2
            obtain ⟨a2, n2, s2, r2, t2, p2, m2, e2, u, j2, wr', bd, rfl, hM, hP5, hj2, hK5, hX⟩ := ho2.open
            have HX2 : Hid _ := hX
            clear hX ho2
            have hq5 := hK5.blk hqs (by omega)
            have hb5 := hK5.blk hbs hnp
            have hN5 := hNs.next2 hK5 (fun n e => by left; omega)
            have hKw5 := hKws.trans hK5 (fun n e => .inl e)
            clear hPs hqs hbs hNs hKws
            cases hN5 with
            | @mk a3 n3 s3 r3 t3 p3 m3 e3 us3 ts3 hk' hl' hs' =>
            have hN5 := Nd.mk (k := a3) (n := n3) (s := s3) (r := r3) (t := t3) hk' hl' hs'
            clear hk' hl' hs'
            go_upto_region 11 with fail
            have hKa : Kp (fun _ => False) w5 (w5.alloc (.cells (N12 a2 n2 s2 r2 t2 (.slice p2 m2 e2)) 77)) := (Kp.refl _ _).alloc _
            have hq6 := hKa.blk hq5 id
            have hb6 := hKa.blk hb5 id
            have hmb6 := blk_new w5 (.cells (N12 a2 n2 s2 r2 t2 (.slice p2 m2 e2)) 77)
            have hP6 := hP5.alloc (.cells (N12 a2 n2 s2 r2 t2 (.slice p2 m2 e2)) 77)
            have hN6 := hN5.next2 hKa (fun n e => e.elim)
            have hM6 := hM.next hKa (fun n e => e.elim)
            have hKw6 := hKw5.alloc (.cells (N12 a2 n2 s2 r2 t2 (.slice p2 m2 e2)) 77)
            have hlb5 := lt_blk hb5
            have hne5 : w5.heap.size ≠ nb := by omega
            have hsz6 : (w5.alloc (.cells (N12 a2 n2 s2 r2 t2 (.slice p2 m2 e2)) 77)).heap.size = w5.heap.size + 1 := by simp
            have HL : Hid (nb < w5.heap.size) := hlb5
            generalize w5.heap.size = mb at *
            generalize w5.alloc (.cells (N12 a2 n2 s2 r2 t2 (.slice p2 m2 e2)) 77) = w6 at *
            clear hlb5
            have HZ6 : Hid (w6.heap.size = mb + 1) := hsz6
            clear hsz6
            obtain ⟨⟨b0, b1, b2, b3, b4, b5, b6, b7, b8, b9, b10, b11⟩, bf⟩ := cells12 hb6
            obtain ⟨⟨d0, d1, d2, d3, d4, d5, d6, d7, d8, d9, d10, d11⟩, df⟩ := cells12 hmb6
            have hKb : Kp (fun _ => False) w6 (w6.alloc (.cells #[.int .i64 a3, .int .i64 n3, .string s3, .int .i64 r3.c, .int .i64 r3.r, .bool r3.fc, .bool r3.fr, .int .i64 t3.c, .int .i64 t3.r, .bool t3.fc, .bool t3.fr, .slice p3 m3 e3, .int .i64 a2, .int .i64 n2, .string s2, .int .i64 r2.c, .int .i64 r2.r, .bool r2.fc, .bool r2.fr, .int .i64 t2.c, .int .i64 t2.r, .bool t2.fc, .bool t2.fr, .slice p2 m2 e2] 77)) := (Kp.refl _ _).alloc _
            have hb7 := hKb.blk hb6 id
            have hq7 := hKb.blk hq6 id
            have hg7 := blk_new w6 (.cells #[.int .i64 a3, .int .i64 n3, .string s3, .int .i64 r3.c, .int .i64 r3.r, .bool r3.fc, .bool r3.fr, .int .i64 t3.c, .int .i64 t3.r, .bool t3.fc, .bool t3.fr, .slice p3 m3 e3, .int .i64 a2, .int .i64 n2, .string s2, .int .i64 r2.c, .int .i64 r2.r, .bool r2.fc, .bool r2.fr, .int .i64 t2.c, .int .i64 t2.r, .bool t2.fc, .bool t2.fr, .slice p2 m2 e2] 77)
            have hP7 := hP6.alloc (.cells #[.int .i64 a3, .int .i64 n3, .string s3, .int .i64 r3.c, .int .i64 r3.r, .bool r3.fc, .bool r3.fr, .int .i64 t3.c, .int .i64 t3.r, .bool t3.fc, .bool t3.fr, .slice p3 m3 e3, .int .i64 a2, .int .i64 n2, .string s2, .int .i64 r2.c, .int .i64 r2.r, .bool r2.fc, .bool r2.fr, .int .i64 t2.c, .int .i64 t2.r, .bool t2.fc, .bool t2.fr, .slice p2 m2 e2] 77)
            have hK7 := hKw6.alloc (.cells #[.int .i64 a3, .int .i64 n3, .string s3, .int .i64 r3.c, .int .i64 r3.r, .bool r3.fc, .bool r3.fr, .int .i64 t3.c, .int .i64 t3.r, .bool t3.fc, .bool t3.fr, .slice p3 m3 e3, .int .i64 a2, .int .i64 n2, .string s2, .int .i64 r2.c, .int .i64 r2.r, .bool r2.fc, .bool r2.fr, .int .i64 t2.c, .int .i64 t2.r, .bool t2.fc, .bool t2.fr, .slice p2 m2 e2] 77)
            have hN7 := hN6.next2 hKb (fun n e => e.elim)
            have hM7 := hM6.next hKb (fun n e => e.elim)
            have hsz7 : w6.heap.size < (w6.alloc (.cells #[.int .i64 a3, .int .i64 n3, .string s3, .int .i64 r3.c, .int .i64 r3.r, .bool r3.fc, .bool r3.fr, .int .i64 t3.c, .int .i64 t3.r, .bool t3.fc, .bool t3.fr, .slice p3 m3 e3, .int .i64 a2, .int .i64 n2, .string s2, .int .i64 r2.c, .int .i64 r2.r, .bool r2.fc, .bool r2.fr, .int .i64 t2.c, .int .i64 t2.r, .bool t2.fc, .bool t2.fr, .slice p2 m2 e2] 77)).heap.size := by simp
            have HSZ : Hid (w6.heap.size < (w6.alloc (.cells #[.int .i64 a3, .int .i64 n3, .string s3, .int .i64 r3.c, .int .i64 r3.r, .bool r3.fc, .bool r3.fr, .int .i64 t3.c, .int .i64 t3.r, .bool t3.fc, .bool t3.fr, .slice p3 m3 e3, .int .i64 a2, .int .i64 n2, .string s2, .int .i64 r2.c, .int .i64 r2.r, .bool r2.fc, .bool r2.fr, .int .i64 t2.c, .int .i64 t2.r, .bool t2.fc, .bool t2.fr, .slice p2 m2 e2] 77)).heap.size) := hsz7
            have HS3 : Hid (w.heap.size ≤ w6.heap.size) := hKw6.size
            have HS4 : Hid (w.heap.size ≤ ws.heap.size) := hss
            clear hsz7 hss
            obtain ⟨⟨g0, g1, g2, g3, g4, g5, g6, g7, g8, g9, g10, g11⟩, gf⟩ := cells12 hb7
            go_wp2_with fail
            clear b0 b1 b2 b3 b4 b5 b6 b7 b8 b9 b10 b11 bf d0 d1 d2 d3 d4 d5 d6 d7 d8 d9 d10 d11 df g0 g1 g2 g3 g4 g5 g6 g7 g8 g9 g10 g11 gf
            refine fin12 hb7 (Q := fun W => LR w pb nb s l d k wr0 L RR W ∧ mOf W pb s < mOf wr pb s) ?_
            intro w9 hb9 hk9
            have hl9 := HL.out
            have hz9 := HZ6.out
            have hy9 := HSZ.out
            have hx9 := HS3.out
            have hv9 := HS4.out
            have hu9 := HLBS.out
            have ht9 := hk9.size
            have hP9 := hP7.keep hk9 (fun e => hnp e.symm)
            have hK9 := hK7.trans hk9 (fun n e => by right; omega)
            have hq9 := hk9.blk hq7 (by omega)
            have hA9 := hN7.next2 hk9 (fun n e => .inr (.inr e))
            have hB9 : Nd w9 (fun n => (w.heap.size + 1 ≤ n ∧ n < w9.heap.size) ∧ n ≠ nb) (NV a2 n2 s2 r2 t2 (.slice p2 m2 e2)) u := hM7.mono (fun n hn => hk9.block n hn.2 (by have := hn.1; omega)) (fun n hn => ⟨⟨by have := hn.1; omega, Nat.lt_of_lt_of_le hn.2 hk9.size⟩, by have := hn.1; omega⟩)
            have hC9 : Nd w9 (fun n => (w.heap.size + 1 ≤ n ∧ n < w9.heap.size) ∧ n ≠ nb) (NV 8 (op : Nat) nul .z .z (.slice (some ⟨w6.heap.size, 0, none⟩) 2 2)) (tTwo op (.nd a3 n3 s3 r3 t3 ts3) u) := Nd.two (hk9.blk hg7 (by omega)) rfl ⟨⟨by omega, by omega⟩, by omega⟩ (Nat.le_refl _) hA9 hB9
            have hz := HCZ.out
            rw [← HEL.out] at hz
            rw [HM.out]
            rcases HX2.out with ⟨k2, hr, hbd, hwr, hsk⟩ | ⟨f, hr, hwr, hbd⟩
            · subst hbd
              subst hwr
              have hpg := Expr_prog L s (by omega) hte hr
              rw [hr] at hz
              have hk2' := (skip_spec s k2).1
              refine ⟨⟨_, _, hq9, hb9, hC9, hK9, .inl ⟨j2, hP9, hj2, by omega, fun e w' hh => HCH.out _ _ ?_⟩⟩, ?_⟩
              · rw [hz]; exact OutR.chain L s hl1 hj2 hpg.2.1 hsk hh
              · rw [mOf_ok hP9]; omega
            · subst hwr
              rw [hr] at hz
              refine ⟨⟨_, _, hq9, hb9, hC9, hK9, .inr ⟨j2, f, bd, hP9, hj2, hbd, fun e w' hh => HCH.out _ _ ?_⟩⟩, ?_⟩
              · rw [hz]; exact hh
              · rw [mOf_bad hbd hP9]; omega
      · have h4' : (tk.kind == 4) = false := beq_eq_false_iff_ne.2 c4
        have ho := HSG.out.2 c4
        have HV : Hid (lev (opAt s (skip s j)).1 < l) := by unfold Hid; rw [ho]; simp [lev]; omega
        have HCR : Hid (Chain L s l d t j = .ok t (if 4 < l then j else skip s j)) := Chain_none L s _ l d t j rfl hl1 hj HV.out
        clear HSG c4 ho HV
        have hqw := hqc
        have hbw := hbc
        have hNw := hNc
        have hPw := hPc
        have hKw := hKc
        clear hqc hbc hNc hPc hKc
        cases hNw with
        | @mk a3 n3 s3 r3 t3 p3 m3 e3 us3 ts3 hk' hl' hs' =>
        have hNw := Nd.mk (k := a3) (n := n3) (s := s3) (r := r3) (t := t3) hk' hl' hs'
        clear hk' hl' hs'
        obtain ⟨⟨b0, b1, b2, b3, b4, b5, b6, b7, b8, b9, b10, b11⟩, bf⟩ := cells12 hbw
        obtain ⟨⟨d0, d1, d2, d3, d4, d5, d6, d7, d8, d9, d10, d11⟩, df⟩ := cells12 hqw
        go_wp2_with fail
        clear b0 b1 b2 b3 b4 b5 b6 b7 b8 b9 b10 b11 bf d0 d1 d2 d3 d4 d5 d6 d7 d8 d9 d10 d11 df
        refine fin12 hqw (Q := bodyPost _ _ _ _ _) ?_
        intro w9 hq9 hk9
        obtain ⟨⟨b0, b1, b2, b3, b4, b5, b6, b7, b8, b9, b10, b11⟩, bf⟩ := cells12 hq9
        refine bodyPost_ret (v := NV a3 n3 s3 r3 t3 (.slice p3 m3 e3)) (by simp [results, Tryz.results53, go_sem, b0, b1, b2, b3, b4, b5, b6, b7, b8, b9, b10, b11]) rfl ?_
        refine HCH.out _ _ ?_
        rw [HCR.out]
        exact ⟨_, j, rfl, hNw.mono (fun n hn => hk9.block n hn.1.2 (by have := hn.1.1; omega)) (fun n hn => ⟨by have := hn.1.1; omega, Nat.lt_of_lt_of_le hn.1.2 hk9.size⟩), hPw.keep hk9 (by omega), hj, by split <;> simp [skip_skip], hKw.trans hk9 (fun n e => by right; omega)⟩
    · obtain ⟨⟨c0, c1, c2, c3, c4⟩, f0, f1, f2, f3, f4⟩ := hP.cells
      obtain ⟨⟨d0, d1, d2, d3, d4, d5, d6, d7, d8, d9, d10, d11⟩, df⟩ := cells12 hq
      have hc' : (c == 0) = false := by rw [beq_eq_false_iff_ne]; exact hc
      have HR : Hid (∀ e w', OutR w pb s d wr0 (.err f c) e w' → OutR w pb s d wr0 RR e w') := hRR
      clear hRR
      go_wp2_with fail
      clear d0 d1 d2 d3 d4 d5 d6 d7 d8 d9 d10 d11 df
      refine fin12 hq (Q := bodyPost _ _ _ _ _) ?_
      intro w9 hq9 hk9
      obtain ⟨⟨b0, b1, b2, b3, b4, b5, b6, b7, b8, b9, b10, b11⟩, bf⟩ := cells12 hq9
      refine bodyPost_ret (v := NV 0 0 nul .z .z (.slice none 0 0)) (by simp [results, Tryz.results53, go_sem, b0, b1, b2, b3, b4, b5, b6, b7, b8, b9, b10, b11]) rfl ?_
      refine HR.out _ _ ?_
      exact ⟨_, _, j, rfl, Nd.leaf, hP.keep hk9 (by omega), hj, hc, hK.trans hk9 (fun n e => by right; omega)⟩
end
end Go.Proofs.YtomgjjngkffbbaaGreatDoor.fm
