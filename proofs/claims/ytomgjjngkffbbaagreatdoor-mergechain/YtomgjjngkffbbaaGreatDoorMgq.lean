
/- The law MergeChain, whole. Conditions: what the package variables hold. -/
import Derived.Test.YtomgjjngkffbbaaGreatDoorMgm
namespace Go.Proofs.YtomgjjngkffbbaaGreatDoor.fw
open Go Go.RowKit Go.Sort
def xL : List ps.Fl := [⟨1, 1, ⟨#[120]⟩⟩]
theorem cdt_x : CdT xL 0 := .inl ⟨rfl, fun i hi => by
  have : i = 0 := by simp [xL] at hi; exact hi
  subst this
  decide +kernel⟩
theorem ap_x : ps.ap [] xL = xL := rfl
/-- The fact: a blank sheet gets a text. -/
theorem apply_x (p1 : Option Addr) (wx : World) (h : ps.FM wx p1 xL) (hE : ps.EnvP wx) : Calls Tryz.prog 14 #[.slice none 0 0, .slice p1 1 1] wx fun e w' => ∃ p' c', e = .returned (.tuple #[.slice p' 1 c', .nilIface]) ∧ Bw wx w' := by
  refine (apply_good none p1 0 1 [] xL wx ⟨.inl rfl, Nat.le_refl _⟩ h hE ps.told_nil cdt_x (by decide) (by rw [ap_x]; decide)).mono fun e w' ⟨p', c', h1, h2, h3⟩ => ⟨p', c', ?_, h3⟩
  rw [h1, ap_x]
  rfl
set_option maxRecDepth 1000000 in
set_option maxHeartbeats 8000000 in
theorem mergeChain_any (p q r : Option Addr) (cp cq cr : Nat) (a b c : List ps.Fl) (w : World) (ha : FC w p cp a) (hb : FC w q cq b) (hc : FC w r cr c) (hE : ps.EnvP w) :
    Calls Tryz.prog 8 #[.slice p a.length cp, .slice q b.length cq, .slice r c.length cr] w fun e w' => e = .returned (.bool true) ∧ Bw w w' := by
  have HAt : Hid (∀ wx, Bw w wx → Calls Tryz.prog 22 #[.int .i64 1, .int .i64 1] wx fun e w' => e = .returned (.agg #[.int .i64 1, .int .i64 1]) ∧ Bw w w') := fun wx h => (at_any 1 1 wx).mono fun e w' ⟨h1, h2⟩ => ⟨h1, h.tr h2⟩
  have HF : Hid (∀ wx, Bw w wx → Calls Tryz.prog 14 #[.slice none 0 0, .slice (some ⟨wx.heap.size, 0, none⟩) 1 1] (wx.alloc (.cells #[.int .i64 1, .int .i64 1, .string ⟨#[120]⟩] 45)) fun e w' => ∃ p' c', e = .returned (.tuple #[.slice p' 1 c', .nilIface]) ∧ Bw w w') := fun wx h1 => (apply_x _ _ (fm_of_block (xs := xL) (heap_alloc_new wx _) rfl) ((hE.below h1 hE.size).below (Bw.al wx _) (by have := h1.size; have := hE.size; omega))).mono fun e w' ⟨p', c', e1, e2⟩ => ⟨p', c', e1, (h1.tr (Bw.al wx _)).tr e2⟩
  by_cases hg : ps.Told a 0 ∧ ps.Told b 0
  · have HD : Hid (∀ wx, Bw w wx → Calls Tryz.prog 11 #[.slice p a.length cp, .slice q b.length cq] wx fun e w' => ∃ p' c', e = .returned (.tuple #[.slice p' (ps.df a b 2574).length c', .nilIface]) ∧ FC w' p' c' (ps.df a b 2574) ∧ Bw w w') := fun wx h => (diff_good p q cp cq a b wx (ha.1.below h) (hb.1.below h) (hE.below h hE.size) hg.1 hg.2).mono fun e w' ⟨p', c', h1, h2, h3⟩ => ⟨p', c', h1, h2, h.tr h3⟩
    by_cases hgc : ps.Told c 0
    · obtain ⟨hTa, hTb⟩ := hg
      have hfa := hTa.fine
      have hfb := hTb.fine
      have hfc := hgc.fine
      have hab : ps.ap a (ps.df a b 2574) = b := ps.ap_diff hfa.srt hfa.ful hfa.ing hfb.srt hfb.ful hfb.ing
      have hbc : ps.ap b (ps.df b c 2574) = c := ps.ap_diff hfb.srt hfb.ful hfb.ing hfc.srt hfc.ful hfc.ing
      have hcc : ps.ap c (ps.df b c 2574) = c := ps.ap_again hfb.ing hfc.srt hfc.ful hfc.ing
      have HD2 : Hid (∀ wx, Bw w wx → Calls Tryz.prog 11 #[.slice q b.length cq, .slice r c.length cr] wx fun e w' => ∃ p' c', e = .returned (.tuple #[.slice p' (ps.df b c 2574).length c', .nilIface]) ∧ FC w' p' c' (ps.df b c 2574) ∧ Bw wx w') := fun wx h => diff_good q r cq cr b c wx (hb.1.below h) (hc.1.below h) (hE.below h hE.size) hTb hgc
      have HA : Hid (∀ p1 c1 wx, Bw w wx → FC wx p1 c1 (ps.df a b 2574) → Calls Tryz.prog 14 #[.slice p a.length cp, .slice p1 (ps.df a b 2574).length c1] wx fun e w' => ∃ p' c', e = .returned (.tuple #[.slice p' b.length c', .nilIface]) ∧ FC w' p' c' b ∧ Bw wx w') := fun p1 c1 wx h h1 => by
        have := apply_good p p1 cp c1 a (ps.df a b 2574) wx (ha.next h) h1.1 (hE.below h hE.size) hTa (cdt_df a hTb (Nat.le_refl _)) (by have := df_len (a := a) (b := b) (n := 2574); omega) (by rw [hab]; exact hfb.len)
        rw [hab] at this
        exact this
      have HA2 : Hid (∀ p0 c0 p1 c1 wx, Bw w wx → FC wx p0 c0 b → FC wx p1 c1 (ps.df b c 2574) → Calls Tryz.prog 14 #[.slice p0 b.length c0, .slice p1 (ps.df b c 2574).length c1] wx fun e w' => ∃ p' c', e = .returned (.tuple #[.slice p' c.length c', .nilIface]) ∧ FC w' p' c' c ∧ Bw wx w') := fun p0 c0 p1 c1 wx h h0 h1 => by
        have := apply_good p0 p1 c0 c1 b (ps.df b c 2574) wx h0 h1.1 (hE.below h hE.size) hTb (cdt_df b hgc (Nat.le_refl _)) (by have := df_len (a := b) (b := c) (n := 2574); omega) (by rw [hbc]; exact hfc.len)
        rw [hbc] at this
        exact this
      have HA3 : Hid (∀ p0 c0 p1 c1 wx, Bw w wx → FC wx p0 c0 c → FC wx p1 c1 (ps.df b c 2574) → Calls Tryz.prog 14 #[.slice p0 c.length c0, .slice p1 (ps.df b c 2574).length c1] wx fun e w' => ∃ p' c', e = .returned (.tuple #[.slice p' c.length c', .nilIface]) ∧ FC w' p' c' c ∧ Bw wx w') := fun p0 c0 p1 c1 wx h h0 h1 => by
        have := apply_good p0 p1 c0 c1 c (ps.df b c 2574) wx h0 h1.1 (hE.below h hE.size) hgc (cdt_df b hgc (Nat.le_refl _)) (by have := df_len (a := b) (b := c) (n := 2574); omega) (by rw [hcc]; exact hfc.len)
        rw [hcc] at this
        exact this
      have HSh : Hid (∀ p1 c1 wx, Bw w wx → FC wx p1 c1 c → Calls Tryz.prog 21 #[.slice p1 c.length c1, .slice r c.length cr] wx fun e w' => e = .returned (.bool true) ∧ Bw wx w') := fun p1 c1 wx h h1 => rsheets_fm c p1 r c1 cr wx h1.1 (hc.1.below h) (by have := hfc.len; omega)
      obtain ⟨na, hna⟩ : ∃ n, a.length = n := ⟨_, rfl⟩
      obtain ⟨nb, hnb⟩ : ∃ n, b.length = n := ⟨_, rfl⟩
      obtain ⟨nc, hnc⟩ : ∃ n, c.length = n := ⟨_, rfl⟩
      obtain ⟨m, hm⟩ : ∃ n, (ps.df a b 2574).length = n := ⟨_, rfl⟩
      obtain ⟨m2, hm2⟩ : ∃ n, (ps.df b c 2574).length = n := ⟨_, rfl⟩
      rw [hna] at HD HA ⊢
      rw [hnb] at HD HD2 HA HA2 ⊢
      rw [hnc] at HD2 HA2 HA3 HSh ⊢
      rw [hm] at HD HA
      rw [hm2] at HD2 HA2 HA3
      clear ha hb hc hE hTa hTb hgc hfa hfb hfc hab hbc hcc hna hnb hnc hm hm2
      go_enter Tryz.func8, Tryz.ntmps8
      go_upto_region 2 with (first | (go_at_call 22; refine (HAt.out _ (Below.refl _ _)).mono ?_; rintro e w1 ⟨rfl, hb1⟩) | (go_at_call 14; refine (HF.out _ hb1).mono ?_; rintro e w2 ⟨p2, c2, rfl, hb2⟩))
      have HB2 : Hid (Bw w w2) := hb2
      clear hb1 hb2 HAt HF
      go_upto_region 5 with (first | (go_at_call 11; refine (HD.out _ HB2.out).mono ?_; rintro e w3 ⟨p3, c3, rfl, hf3, hb3⟩))
      have HB3 : Hid (Bw w w3 ∧ FC w3 p3 c3 (ps.df a b 2574)) := ⟨hb3, hf3⟩
      clear hb3 hf3 HD HB2
      go_upto_region 6 with (first | (go_at_call 11; refine (HD2.out _ HB3.out.1).mono ?_; rintro e w4 ⟨p4, c4, rfl, hf4, hb4⟩))
      have HB4 : Hid (Bw w w4 ∧ FC w4 p3 c3 (ps.df a b 2574) ∧ FC w4 p4 c4 (ps.df b c 2574)) := ⟨HB3.out.1.tr hb4, HB3.out.2.next hb4, hf4⟩
      clear hb4 hf4 HD2 HB3
      go_upto_region 9 with (first | (go_at_call 14; refine (HA.out _ _ _ HB4.out.1 HB4.out.2.1).mono ?_; rintro e w5 ⟨p5, c5, rfl, hf5, hb5⟩))
      have HB5 : Hid (Bw w w5 ∧ FC w5 p4 c4 (ps.df b c 2574) ∧ FC w5 p5 c5 b) := ⟨HB4.out.1.tr hb5, HB4.out.2.2.next hb5, hf5⟩
      clear hb5 hf5 HA HB4
      go_upto_region 10 with (first | (go_at_call 14; refine (HA2.out _ _ _ _ _ HB5.out.1 HB5.out.2.2 HB5.out.2.1).mono ?_; rintro e w6 ⟨p6, c6, rfl, hf6, hb6⟩))
      have HB6 : Hid (Bw w w6 ∧ FC w6 p4 c4 (ps.df b c 2574) ∧ FC w6 p6 c6 c) := ⟨HB5.out.1.tr hb6, HB5.out.2.1.next hb6, hf6⟩
      clear hb6 hf6 HA2 HB5
      go_upto_region 11 with (first | (go_at_call 21; refine (HSh.out _ _ _ HB6.out.1 HB6.out.2.2).mono ?_; rintro e w7 ⟨rfl, hb7⟩))
      have HB7 : Hid (Bw w w7 ∧ FC w7 p4 c4 (ps.df b c 2574) ∧ FC w7 p6 c6 c) := ⟨HB6.out.1.tr hb7, HB6.out.2.1.next hb7, HB6.out.2.2.next hb7⟩
      clear hb7 HB6
      go_upto_region 12 with (first | (go_at_call 14; refine (HA3.out _ _ _ _ _ HB7.out.1 HB7.out.2.2 HB7.out.2.1).mono ?_; rintro e w8 ⟨p8, c8, rfl, hf8, hb8⟩))
      have HB8 : Hid (Bw w w8 ∧ FC w8 p8 c8 c) := ⟨HB7.out.1.tr hb8, hf8⟩
      clear hb8 hf8 HA3 HB7
      go_upto_region 13 with (first | (go_at_call 21; refine (HSh.out _ _ _ HB8.out.1 HB8.out.2).mono ?_; rintro e w9 ⟨rfl, hb9⟩))
      have HB9 : Hid (Bw w w9) := HB8.out.1.tr hb9
      clear hb9 HSh HB8
      go_wp2_with fail
      go_ret
      exact ⟨rfl, HB9.out⟩
    · have HD2 : Hid (∀ wx, Bw w wx → Calls Tryz.prog 11 #[.slice q b.length cq, .slice r c.length cr] wx fun e w' => ∃ z, e = .returned (.tuple #[.slice none 0 0, .iface 67 (.int .i64 z)]) ∧ Bw wx w') := fun wx h => diff_bad q r cq cr b c wx (hb.1.below h) (hc.1.below h) (hE.below h hE.size) fun h2 => hgc h2.2
      obtain ⟨na, hna⟩ : ∃ n, a.length = n := ⟨_, rfl⟩
      obtain ⟨nb, hnb⟩ : ∃ n, b.length = n := ⟨_, rfl⟩
      obtain ⟨nc, hnc⟩ : ∃ n, c.length = n := ⟨_, rfl⟩
      rw [hna] at HD ⊢
      rw [hnb] at HD HD2 ⊢
      rw [hnc] at HD2 ⊢
      clear ha hb hc hE hg hgc hna hnb hnc
      go_enter Tryz.func8, Tryz.ntmps8
      go_upto_region 2 with (first | (go_at_call 22; refine (HAt.out _ (Below.refl _ _)).mono ?_; rintro e w1 ⟨rfl, hb1⟩) | (go_at_call 14; refine (HF.out _ hb1).mono ?_; rintro e w2 ⟨p2, c2, rfl, hb2⟩))
      have HB2 : Hid (Bw w w2) := hb2
      clear hb1 hb2 HAt HF
      go_upto_region 5 with (first | (go_at_call 11; refine (HD.out _ HB2.out).mono ?_; rintro e w3 ⟨p3, c3, rfl, hf3, hb3⟩))
      have HB3 : Hid (Bw w w3) := hb3
      clear hb3 hf3 HD HB2
      go_wp2_with (first | (go_at_call 11; refine (HD2.out _ HB3.out).mono ?_; rintro e w4 ⟨z, rfl, hb4⟩))
      go_ret
      exact ⟨rfl, HB3.out.tr hb4⟩
  · have HD : Hid (∀ wx, Bw w wx → Calls Tryz.prog 11 #[.slice p a.length cp, .slice q b.length cq] wx fun e w' => ∃ z, e = .returned (.tuple #[.slice none 0 0, .iface 67 (.int .i64 z)]) ∧ Bw w w') := fun wx h => (diff_bad p q cp cq a b wx (ha.1.below h) (hb.1.below h) (hE.below h hE.size) hg).mono fun e w' ⟨z, h1, h2⟩ => ⟨z, h1, h.tr h2⟩
    have HD2 : Hid (∀ wx, Bw w wx → Calls Tryz.prog 11 #[.slice q b.length cq, .slice r c.length cr] wx fun e w' => ∃ p' m' c' v', e = .returned (.tuple #[.slice p' m' c', v']) ∧ Bw w w') := fun wx h => by
      by_cases h2 : ps.Told b 0 ∧ ps.Told c 0
      · exact (diff_good q r cq cr b c wx (hb.1.below h) (hc.1.below h) (hE.below h hE.size) h2.1 h2.2).mono fun e w' ⟨p', c', h1, _, h3⟩ => ⟨p', _, c', _, h1, h.tr h3⟩
      · exact (diff_bad q r cq cr b c wx (hb.1.below h) (hc.1.below h) (hE.below h hE.size) h2).mono fun e w' ⟨z, h1, h3⟩ => ⟨none, 0, 0, _, h1, h.tr h3⟩
    obtain ⟨na, hna⟩ : ∃ n, a.length = n := ⟨_, rfl⟩
    obtain ⟨nb, hnb⟩ : ∃ n, b.length = n := ⟨_, rfl⟩
    obtain ⟨nc, hnc⟩ : ∃ n, c.length = n := ⟨_, rfl⟩
    rw [hna] at HD ⊢
    rw [hnb] at HD HD2 ⊢
    rw [hnc] at HD2 ⊢
    clear ha hb hc hE hg hna hnb hnc
    go_enter Tryz.func8, Tryz.ntmps8
    go_upto_region 2 with (first | (go_at_call 22; refine (HAt.out _ (Below.refl _ _)).mono ?_; rintro e w1 ⟨rfl, hb1⟩) | (go_at_call 14; refine (HF.out _ hb1).mono ?_; rintro e w2 ⟨p2, c2, rfl, hb2⟩))
    have HB2 : Hid (Bw w w2) := hb2
    clear hb1 hb2 HAt HF
    go_upto_region 5 with (first | (go_at_call 11; refine (HD.out _ HB2.out).mono ?_; rintro e w3 ⟨z, rfl, hb3⟩))
    have HB3 : Hid (Bw w w3) := hb3
    clear hb3 HD HB2
    go_upto_region 6 with (first | (go_at_call 11; refine (HD2.out _ HB3.out).mono ?_; rintro e w4 ⟨p4, m4, c4, v4, rfl, hb4⟩))
    have HB4 : Hid (Bw w w4) := hb4
    clear hb4 HD2 HB3
    go_wp2_with fail
    go_ret
    exact ⟨rfl, HB4.out⟩
end Go.Proofs.YtomgjjngkffbbaaGreatDoor.fw
