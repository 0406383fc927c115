/- Package past: a group of one text. Conditions: as each theorem says. -/
import Derived.Test.YtpgjmbbdhilhkaaGreatDoorZl
namespace Go.Proofs.YtpgjmbbdhilhkaaGreatDoor.ps
open Go.RowKit
open adr (C)
abbrev GS (wr : World) (bp : Nat) (u : Value) (wx : World) : Prop := wx.cell? ⟨bp, 0, none⟩ = some u ∧ Below wr.heap.size wr wx
theorem gsb {wr : World} {bp : Nat} {u : Value} {wx : World} (h : GS wr bp u wx) : Below wr.heap.size wr wx := h.2
abbrev Z2 : Array Value := #[.slice none 0 0, .slice none 0 0]
/-- What a step of one text is. -/
def Sp (xs : List Fl) (f : Fl) (w : World) (va vb : Value) : Prop := (txt xs f.c f.r = f.s ∧ va = .slice none 0 0 ∧ vb = .slice none 0 0) ∨ (txt xs f.c f.r ≠ f.s ∧ FB w va [⟨f.c, f.r, txt xs f.c f.r⟩] ∧ FB w vb [f])
theorem Sp.form {xs : List Fl} {f : Fl} {w : World} {va vb : Value} (h : Sp xs f w va vb) : (∃ p n c, va = .slice p n c) ∧ ∃ p n c, vb = .slice p n c := by
  rcases h with ⟨-, rfl, rfl⟩ | ⟨-, h1, h2⟩
  · exact ⟨⟨_, _, _, rfl⟩, _, _, _, rfl⟩
  · obtain ⟨_, _, rfl, -⟩ := h1.shape
    obtain ⟨_, _, rfl, -⟩ := h2.shape
    exact ⟨⟨_, _, _, rfl⟩, _, _, _, rfl⟩
theorem Sp.kp {bp : Nat} {xs : List Fl} {f : Fl} {w w' : World} {va vb : Value} (h : Sp xs f w va vb) (hk : KP bp w w') : Sp xs f w' va vb := h.imp id fun ⟨h0, h1, h2⟩ => ⟨h0, h1.kp hk, h2.kp hk⟩
/-- Two stores into a block of a step. -/
theorem set2 {w : World} {b : Nat} {a0 a1 u0 u1 : Value} {xs : List Fl} {f : Fl} (h : w.heap[b]? = some (.cells #[a0, a1] 46 (0, 0))) (hs : Sp xs f w u0 u1) : ((w.setCell ⟨b, 0, none⟩ u0).setCell ⟨b, 1, none⟩ u1).heap[b]? = some (.cells #[u0, u1] 46 (0, 0)) ∧ Sp xs f ((w.setCell ⟨b, 0, none⟩ u0).setCell ⟨b, 1, none⟩ u1) u0 u1 := by
  have h0 : (w.setCell ⟨b, 0, none⟩ u0).heap[b]? = some (.cells #[u0, a1] 46 (0, 0)) := by rw [fm.blk_set h]; rfl
  have h1 : ((w.setCell ⟨b, 0, none⟩ u0).setCell ⟨b, 1, none⟩ u1).heap[b]? = some (.cells #[u0, u1] 46 (0, 0)) := by rw [fm.blk_set h0]; rfl
  exact ⟨h1, (hs.kp (KP.set (bp := b) h (by decide) (Nat.le_refl _) u0)).kp (KP.set (bp := b) h0 (by decide) (Nat.le_refl _) u1)⟩
set_option maxRecDepth 100000 in
set_option maxHeartbeats 8000000 in
theorem group1 (bp : Nat) (xs : List Fl) (st : List St) (vn vs : Value) (g o cf : Nat) (f : Fl) (V : Value → Prop) (w : World) (h : PS w bp xs st st.length vn vs) (hn : st.length ≤ 1000) (hl : xs.length ≤ 200) (hs : Srt xs) (hf : FM w (some ⟨g, o, none⟩) [f])
    (hc : ∀ wx, Below w.heap.size w wx → Calls Tryz.prog 17 #[C f.c f.r, .string f.s] wx fun e w' => (∃ v, e = .returned v ∧ (v = .nilIface ∨ (V v ∧ ∃ t x, v = .iface t x))) ∧ Below wx.heap.size wx w') :
    Calls Tryz.prog 12 #[.pointer (some ⟨bp, 0, none⟩), .slice (some ⟨g, o, none⟩) 1 cf] w fun e w' => ∃ v, e = .returned v ∧ KP bp w w' ∧ ((PS w' bp xs st st.length vn vs ∧ (V v ∨ 200 < (wt xs f).length ∨ (v = .nilIface ∧ txt xs f.c f.r = f.s))) ∨ (v = .nilIface ∧ (wt xs f).length ≤ 200 ∧ ∃ s vn' vs', s.a = ⟨f.c, f.r, txt xs f.c f.r⟩ ∧ s.b = f ∧ PS w' bp (wt xs f) (st ++ [s]) (st.length + 1) vn' vs')) := by
  have HP : Hid (PS w bp xs st st.length vn vs ∧ FM w (some ⟨g, o, none⟩) [f]) := ⟨h, hf⟩
  have HC : Hid (∀ wx, Below w.heap.size w wx → Calls Tryz.prog 17 #[C f.c f.r, .string f.s] wx fun e w' => (∃ v, e = .returned v ∧ (v = .nilIface ∨ (V v ∧ ∃ t x, v = .iface t x))) ∧ Below wx.heap.size wx w') := hc
  clear h hf hc
  go_enter Tryz.func12, Tryz.ntmps12
  go_wp2_with fail
  go_loopw [12] (fun i wr => (i = .int .i64 0 ∧ wr = w) ∨ (i = .int .i64 1 ∧ Below w.heap.size w wr)) (fun i _ => 1 - (intOf i).toNat)
  case atStart => exact .inl ⟨rfl, rfl⟩
  case round =>
    rcases hrel with ⟨rfl, rfl⟩ | ⟨rfl, hb⟩
    · obtain ⟨q0, q1, q2⟩ := FM.cells HP.out.2 (i := 0) rfl
      rw [Nat.zero_mul, Nat.add_zero] at q0 q1 q2
      have hbx : (wr.alloc (.cells #[.int .i64 f.c, .int .i64 f.r, .string f.s] 33)).heap[wr.heap.size]? = some (.cells #[.int .i64 f.c, .int .i64 f.r, .string f.s] 33 (0, 0)) := heap_alloc_new _ _
      have hb1 : Below wr.heap.size wr (wr.alloc (.cells #[.int .i64 f.c, .int .i64 f.r, .string f.s] 33)) := (Below.refl _ _).alloc (Nat.le_refl _) _
      obtain ⟨b0, b1, b2⟩ := cells3 hbx
      go_wp2_with fail
      refine (HC.out _ hb1).mono ?_
      rintro e w1 ⟨⟨v, rfl, hv⟩, hb2⟩
      have HB : Hid (Below wr.heap.size wr w1) := bnext hb1 hb2 hb1.size
      clear b0 b1 b2 q0 q1 q2 hbx hb1 hb2
      rcases hv with rfl | ⟨hV, t, x, rfl⟩
      · go_wp2_with fail
        exact ⟨.inr ⟨rfl, HB.out⟩, by simp [intOf]⟩
      · go_wp2_with fail
        go_ret
        exact ⟨_, rfl, KP.of HB.out (Nat.le_of_lt HP.out.1.lt), .inl ⟨HP.out.1.next HB.out, .inl hV⟩⟩
    · have HB : Hid (Below w.heap.size w wr) := hb
      have hp := HP.out.1.next hb
      obtain ⟨p, c, rfl, hm, hcap, -⟩ := hp.now.full
      obtain ⟨ps, cs, rfl, -⟩ := hp.steps
      obtain ⟨c0, c1, c2⟩ := cells3 hp.blk
      have HPr : Hid (PS wr bp xs st st.length (.slice p xs.length c) (.slice ps st.length cs)) := hp
      have HL : Hid (∀ wx, Below wr.heap.size wr wx → Calls Tryz.prog 19 #[.slice (some ⟨g, o, none⟩) 1 cf] wx fun e w' => ∃ g' c', e = .returned (.slice (some ⟨g', 0, none⟩) 1 c') ∧ FM w' (some ⟨g', 0, none⟩) [f] ∧ Below wx.heap.size wx w') := fun wx hx => lastOf1 g o cf f wx ((HP.out.2.below hb).below hx)
      have HS : Hid (∀ wx g' c', Below wr.heap.size wr wx → FM wx (some ⟨g', 0, none⟩) [f] → Calls Tryz.prog 18 #[.slice p xs.length c, .slice (some ⟨g', 0, none⟩) 1 c'] wx fun e w' => ∃ va vb, e = .returned (.agg #[va, vb]) ∧ Sp xs f w' va vb ∧ Below wx.heap.size wx w') := fun wx g' c' hx hfx => (stepTo1 p c xs g' 0 c' f wx (hm.below hx) (by omega) hs hfx).mono (fun e w' ⟨va, vb, e1, e2, e3⟩ => ⟨va, vb, e1, e2.imp id (fun ⟨a1, a2, a3⟩ => ⟨a1, own_base a2 (Nat.zero_le _), own_base a3 (Nat.zero_le _)⟩), e3⟩)
      have sof : ∀ wx, Below wr.heap.size wr wx → GS wr bp (.slice p xs.length c) wx := fun wx hx => ⟨(hx.cell (p := ⟨bp, 0, none⟩) hp.lt).trans c0, hx⟩
      have h0d := sof wr.drew (Below.refl _ _).drew
      have SOF : Hid (∀ wx, Below wr.heap.size wr wx → GS wr bp (.slice p xs.length c) wx) := sof
      have HcapX : Hid (xs.length ≤ c) := hcap
      clear hp hm hb sof hcap
      go_wp2_with fail
      go_cut [8] (fun s8 wx => ∃ b va vb, s8 = .pointer (some ⟨b, 0, none⟩) ∧ wx.heap[b]? = some (.cells #[va, vb] 46 (0, 0)) ∧ Sp xs f wx va vb ∧ Below wr.heap.size wr wx)
      case first =>
        go_region_held3 (fun wx => GS wr bp (.slice p xs.length c) wx) (first | exact h0d | exact SOF.out _ (bnext (gsb (by assumption)) (by assumption) (gsb (by assumption)).size) | exact SOF.out _ (Below.alloc (gsb (by assumption)) (gsb (by assumption)).size _) | exact SOF.out _ (hbw2.alloc hbw2.size _) | exact SOF.out _ ((hbw2.setCell (Nat.le_refl _) _).setCell (Nat.le_refl _) _) | exact SOF.out _ ((hbw2.setCell hle _).setCell hle _)) (first | (go_at_call 19; refine (HL.out _ (gsb (by assumption))).mono ?_; rintro e w1 ⟨g', c', rfl, hf1, hb1⟩; have hle : wr.heap.size ≤ w1.heap.size := (bnext (gsb (by assumption)) hb1 (gsb (by assumption)).size).size; (first | have hzA : w1.heap[wr.heap.size]? = some (.cells Z2 46 (0, 0)) := (hb1.block _ (by simp)).trans (heap_alloc_new wr _) | skip)) | (go_at_call 18; refine (HS.out _ _ _ (gsb (by assumption)) (by first | exact hf1 | exact hf1.below ((Below.refl _ _).alloc (Nat.le_refl _) _))).mono ?_; rintro e w2 ⟨va, vb, rfl, hsp, hb2⟩; have hbw2 : Below wr.heap.size wr w2 := bnext (gsb (by assumption)) hb2 (gsb (by assumption)).size; obtain ⟨⟨pa, na, ca, rfl⟩, pb, nb, cb, rfl⟩ := hsp.form; (first | (have hzB : w2.heap[wr.heap.size]? = some (.cells Z2 46 (0, 0)) := (hb2.block _ (fm.lt_blk hzA)).trans hzA; obtain ⟨y0, y1⟩ := cells2 hzB; have z0 := froz hzB 0; have z1 := froz hzB 1; skip) | (have hzB : w2.heap[w1.heap.size]? = some (.cells Z2 46 (0, 0)) := (hb2.block _ (by simp)).trans (heap_alloc_new w1 _); obtain ⟨y0, y1⟩ := cells2 hzB; have z0 := froz hzB 0; have z1 := froz hzB 1) | skip)))
        all_goals
          go_wp2_with fail
          go_meet
          case rel => first | exact ⟨_, _, _, rfl, (set2 hzB hsp).1, (set2 hzB hsp).2, (hbw2.setCell (Nat.le_refl _) _).setCell (Nat.le_refl _) _⟩ | exact ⟨_, _, _, rfl, (set2 hzB hsp).1, (set2 hzB hsp).2, (hbw2.setCell hle _).setCell hle _⟩ | exact ⟨_, _, _, rfl, heap_alloc_new w2 _, hsp.kp (KP.of (bp := w2.heap.size) ((Below.refl _ _).alloc (Nat.le_refl _) _) (Nat.le_refl _)), hbw2.alloc hbw2.size _⟩
      case rest =>
      obtain ⟨b, va, vb, rfl, hb, hsp, hbl⟩ := hcut
      clear c0 c1 c2 h0d
      have HPc : Hid (PS wc bp xs st st.length (.slice p xs.length c) (.slice ps st.length cs) ∧ KP bp w wc) := ⟨HPr.out.next hbl, KP.of (bnext HB.out hbl HB.out.size) (Nat.le_of_lt HP.out.1.lt)⟩
      clear hbl SOF HL HS HPr HB HC
      rcases hsp with ⟨he, rfl, rfl⟩ | ⟨he, h1, h2⟩
      · obtain ⟨b0, b1⟩ := cells2 hb
        have HE : Hid (txt xs f.c f.r = f.s) := he
        clear he hb
        go_wp2_with fail
        go_ret
        exact ⟨_, rfl, HPc.out.2, .inl ⟨HPc.out.1, .inr (.inr ⟨rfl, HE.out⟩)⟩⟩
      · obtain ⟨ga, ca, rfl, -⟩ := h1.one
        obtain ⟨gb, cb, rfl, hmb⟩ := h2.one
        obtain ⟨b0, b1⟩ := cells2 hb
        obtain ⟨c0, c1, c2⟩ := cells3 HPc.out.1.blk
        obtain ⟨p', c', e1, hmx, -⟩ := HPc.out.1.now.full
        injection e1 with e1 _ e3
        subst e1 e3
        have HQ : Hid (wc.heap[b]? = some (.cells #[.slice (some ⟨ga, 0, none⟩) 1 ca, .slice (some ⟨gb, 0, none⟩) 1 cb] 46 (0, 0)) ∧ FB wc (.slice (some ⟨ga, 0, none⟩) 1 ca) [⟨f.c, f.r, txt xs f.c f.r⟩] ∧ FB wc (.slice (some ⟨gb, 0, none⟩) 1 cb) [f]) := ⟨hb, h1, h2⟩
        have HW : Hid (Calls Tryz.prog 16 #[.slice p xs.length c, .slice (some ⟨gb, 0, none⟩) 1 cb] wc.drew fun e w' => (∃ v, e = .returned v ∧ FB w' v (wt xs f)) ∧ Below wc.drew.heap.size wc.drew w') := (with1 p c xs f gb 0 cb wc.drew (hmx.below (Below.refl _ _).drew) (by omega) (hmb.below (Below.refl _ _).drew) HcapX.out).mono (fun e w' ⟨⟨v, e1, e2⟩, e3⟩ => ⟨⟨v, e1, own_base e2 (Nat.zero_le _)⟩, e3⟩)
        clear h1 h2 he hb hmb hmx
        go_wp2_with fail
        go_cut [9] (fun s9 wx => FB wx s9 (wt xs f) ∧ Below wc.heap.size wc wx)
        case first =>
          go_region_with (go_at_call 16; refine HW.out.mono ?_; rintro e w3 ⟨⟨v, rfl, hv⟩, hb3⟩)
          all_goals
            go_wp2_with fail
            go_meet
            case rel => exact ⟨hv, (Below.refl _ _).drew.trans hb3⟩
        case rest =>
        obtain ⟨hv, hbw⟩ := hcut
        obtain ⟨pv, cv, rfl, -⟩ := hv.full
        have hp3 := HPc.out.1.next hbw
        have hk3 := HPc.out.2.trans (KP.of hbw (Nat.le_of_lt HPc.out.1.lt))
        have hb3 := (hbw.block _ (fm.lt_blk HQ.out.1)).trans HQ.out.1
        have ha3 := HQ.out.2.1.below hbw
        have hd3 := HQ.out.2.2.below hbw
        clear c0 c1 c2 b0 b1 hbw HQ HPc HW
        obtain ⟨m, hm⟩ : ∃ m, (wt xs f).length = m := ⟨_, rfl⟩
        have HM : Hid ((wt xs f).length = m) := hm
        rw [hm] at hv ⊢
        clear hm
        by_cases hlen : m ≤ 200
        · have hl1 : ¬ (200 : Int) < (m : Int) := by omega
          have hl2 : (m : Int) ≤ 200 := by omega
          obtain ⟨c0, c1, c2⟩ := cells3 hp3.blk
          have z0 := froz hp3.blk 0
          obtain ⟨h4, h5⟩ := hp3.setNow hv
          have hbb : b ≠ bp := fun e => by
            rw [e, hp3.blk] at hb3
            injection hb3 with hb3
            injection hb3 with _ q
            exact absurd q (by decide)
          have hb4 : (wc.setCell ⟨bp, 0, none⟩ (.slice pv m cv)).heap[b]? = some (.cells #[.slice (some ⟨ga, 0, none⟩) 1 ca, .slice (some ⟨gb, 0, none⟩) 1 cb] 46 (0, 0)) := (Below.heap_setCell _ _ _ _ hbb).trans hb3
          have HF : Hid (PS (wc.setCell ⟨bp, 0, none⟩ (.slice pv m cv)) bp (wt xs f) st st.length (.slice pv m cv) (.slice ps st.length cs) ∧ KP bp w (wc.setCell ⟨bp, 0, none⟩ (.slice pv m cv)) ∧ (wc.setCell ⟨bp, 0, none⟩ (.slice pv m cv)).heap[b]? = some (.cells #[.slice (some ⟨ga, 0, none⟩) 1 ca, .slice (some ⟨gb, 0, none⟩) 1 cb] 46 (0, 0)) ∧ FB (wc.setCell ⟨bp, 0, none⟩ (.slice pv m cv)) (.slice (some ⟨ga, 0, none⟩) 1 ca) [⟨f.c, f.r, txt xs f.c f.r⟩] ∧ FB (wc.setCell ⟨bp, 0, none⟩ (.slice pv m cv)) (.slice (some ⟨gb, 0, none⟩) 1 cb) [f]) := ⟨h4, hk3.trans h5, hb4, ha3.kp h5, hd3.kp h5⟩
          clear hp3 hk3 hb3 ha3 hd3 hv h4 h5 hbb hb4
          go_upto_region 15 with fail
          generalize wc.setCell ⟨bp, 0, none⟩ (.slice pv m cv) = W at *
          clear c0 c1 c2 z0
          obtain ⟨b0, b1⟩ := cells2 HF.out.2.2.1
          have HPut : Hid (Calls Tryz.prog 20 #[.pointer (some ⟨bp, 0, none⟩), .agg #[.slice (some ⟨ga, 0, none⟩) 1 ca, .slice (some ⟨gb, 0, none⟩) 1 cb]] W fun e w' => (∃ v, e = .returned v) ∧ (∃ vs', PS w' bp (wt xs f) (st ++ [⟨⟨f.c, f.r, txt xs f.c f.r⟩, f, .slice (some ⟨ga, 0, none⟩) 1 ca, .slice (some ⟨gb, 0, none⟩) 1 cb⟩]) (st.length + 1) (.slice pv m cv) vs') ∧ KP bp W w') := put_any bp (wt xs f) st _ _ ⟨⟨f.c, f.r, txt xs f.c f.r⟩, f, .slice (some ⟨ga, 0, none⟩) 1 ca, .slice (some ⟨gb, 0, none⟩) 1 cb⟩ W HF.out.1 ⟨HF.out.2.2.2.1, HF.out.2.2.2.2⟩ hn
          go_wp2_with fail
          refine HPut.out.mono ?_
          rintro e w5 ⟨⟨v, rfl⟩, ⟨vs', hp5⟩, hk5⟩
          have HG : Hid (PS w5 bp (wt xs f) (st ++ [⟨⟨f.c, f.r, txt xs f.c f.r⟩, f, .slice (some ⟨ga, 0, none⟩) 1 ca, .slice (some ⟨gb, 0, none⟩) 1 cb⟩]) (st.length + 1) (.slice pv m cv) vs' ∧ KP bp w w5) := ⟨hp5, HF.out.2.1.trans hk5⟩
          clear hp5 hk5 b0 b1
          go_wp2_with fail
          go_ret
          exact ⟨_, rfl, HG.out.2, .inr ⟨rfl, by rw [HM.out]; exact hlen, _, _, _, rfl, rfl, HG.out.1⟩⟩
        · have hl1 : (200 : Int) < (m : Int) := by omega
          have HF : Hid (PS wc bp xs st st.length (.slice p xs.length c) (.slice ps st.length cs) ∧ KP bp w wc) := ⟨hp3, hk3⟩
          clear hp3 hk3 hb3 ha3 hd3 hv
          go_wp2_with fail
          go_ret
          exact ⟨_, rfl, HF.out.2, .inl ⟨HF.out.1, .inr (.inl (by rw [HM.out]; omega))⟩⟩
end Go.Proofs.YtpgjmbbdhilhkaaGreatDoor.ps
