
/- The law MergeBack, whole. Conditions: what the package variables hold. -/
import Derived.Test.YtomgjjngkffbbaaGreatDoorMgm
namespace Go.Proofs.YtomgjjngkffbbaaGreatDoor.fw
open Go Go.RowKit Go.Sort
/-- The fact of the laws: from nothing to the small sheet. -/
theorem diff_small (p1 : Option Addr) (wx : World) (h : FC wx p1 2 smL) (hE : ps.EnvP wx) : Calls Tryz.prog 11 #[.slice none 0 0, .slice p1 2 2] wx fun e w' => ∃ p' c', e = .returned (.tuple #[.slice p' 2 c', .nilIface]) ∧ Bw wx w' := by
  refine (diff_good none p1 0 2 [] smL wx (.inl rfl) h.1 hE ps.told_nil told_sm).mono fun e w' ⟨p', c', h1, h2, h3⟩ => ⟨p', c', ?_, h3⟩
  rw [h1, df_nil told_sm.fine]
  rfl
set_option maxRecDepth 1000000 in
set_option maxHeartbeats 8000000 in
theorem mergeBack_any (p q : Option Addr) (cp cq : Nat) (a b : List ps.Fl) (w : World) (ha : FC w p cp a) (hb : FC w q cq b) (hE : ps.EnvP w) :
    Calls Tryz.prog 6 #[.slice p a.length cp, .slice q b.length cq] w fun e w' => e = .returned (.bool true) ∧ Bw w w' := by
  have HS : Hid (Calls Tryz.prog 19 #[] w fun e w' => ∃ p, e = .returned (.slice p 2 2) ∧ FC w' p 2 smL ∧ Bw w w') := small_any w
  have HF : Hid (∀ p1 wx, Bw w wx → FC wx p1 2 smL → Calls Tryz.prog 11 #[.slice none 0 0, .slice p1 2 2] wx fun e w' => ∃ p' c', e = .returned (.tuple #[.slice p' 2 c', .nilIface]) ∧ Bw wx w') := fun p1 wx h1 h2 => diff_small p1 wx h2 (hE.below h1 hE.size)
  by_cases hg : ps.Told a 0 ∧ ps.Told b 0
  · obtain ⟨hTa, hTb⟩ := hg
    have hfa := hTa.fine
    have hfb := hTb.fine
    have hap : ps.ap a (ps.df a b 2574) = b := ps.ap_diff hfa.srt hfa.ful hfa.ing hfb.srt hfb.ful hfb.ing
    have HD : Hid (∀ wx, Bw w wx → Calls Tryz.prog 11 #[.slice p a.length cp, .slice q b.length cq] wx fun e w' => ∃ p' c', e = .returned (.tuple #[.slice p' (ps.df a b 2574).length c', .nilIface]) ∧ FC w' p' c' (ps.df a b 2574) ∧ Bw wx w') := fun wx h => diff_good p q cp cq a b wx (ha.1.below h) (hb.1.below h) (hE.below h hE.size) hTa hTb
    have HA : Hid (∀ p1 c1 wx, Bw w wx → FC wx p1 c1 (ps.df a b 2574) → Calls Tryz.prog 14 #[.slice p a.length cp, .slice p1 (ps.df a b 2574).length c1] wx fun e w' => ∃ p' c', e = .returned (.tuple #[.slice p' b.length c', .nilIface]) ∧ FC w' p' c' b ∧ Bw wx w') := fun p1 c1 wx h h1 => by
      have := apply_good p p1 cp c1 a (ps.df a b 2574) wx (ha.next h) h1.1 (hE.below h hE.size) hTa (cdt_df a hTb (Nat.le_refl _)) (by have := df_len (a := a) (b := b) (n := 2574); omega) (by rw [hap]; exact hfb.len)
      rw [hap] at this
      exact this
    have HSh : Hid (∀ p1 c1 wx, Bw w wx → FC wx p1 c1 b → Calls Tryz.prog 21 #[.slice p1 b.length c1, .slice q b.length cq] wx fun e w' => e = .returned (.bool true) ∧ Bw wx w') := fun p1 c1 wx h h1 => rsheets_fm b p1 q c1 cq wx h1.1 (hb.1.below h) (by have := hfb.len; omega)
    have HN : Hid (∀ wx, Bw w wx → Calls Tryz.prog 11 #[.slice q b.length cq, .slice q b.length cq] wx fun e w' => ∃ p' c', e = .returned (.tuple #[.slice p' 0 c', .nilIface]) ∧ Bw wx w') := fun wx h => (diff_good q q cq cq b b wx (hb.1.below h) (hb.1.below h) (hE.below h hE.size) hTb hTb).mono fun e w' ⟨p', c', h1, h2, h3⟩ => ⟨p', c', by rw [h1, ps.df_self]; rfl, h3⟩
    have HR : Hid (∀ wx, Bw w wx → Calls Tryz.prog 11 #[.slice q b.length cq, .slice p a.length cp] wx fun e w' => ∃ p' c', e = .returned (.tuple #[.slice p' (ps.df a b 2574).length c', .nilIface]) ∧ Bw wx w') := fun wx h => (diff_good q p cq cp b a wx (hb.1.below h) (ha.1.below h) (hE.below h hE.size) hTb hTa).mono fun e w' ⟨p', c', h1, h2, h3⟩ => ⟨p', c', by rw [h1, ps.df_turned b a], h3⟩
    obtain ⟨na, hna⟩ : ∃ n, a.length = n := ⟨_, rfl⟩
    obtain ⟨nb, hnb⟩ : ∃ n, b.length = n := ⟨_, rfl⟩
    obtain ⟨m, hm⟩ : ∃ n, (ps.df a b 2574).length = n := ⟨_, rfl⟩
    have hm9 : (m : Int) ≤ 2574 := by have := df_len (a := a) (b := b) (n := 2574); omega
    rw [hna] at HD HA HR ⊢
    rw [hnb] at HD HA HSh HN HR ⊢
    rw [hm] at HD HA HR
    clear ha hb hE hTa hTb hfa hfb hap hna hnb hm
    go_enter Tryz.func6, Tryz.ntmps6
    go_upto_region 2 with (first | (go_at_call 19; refine HS.out.mono ?_; rintro e w1 ⟨p1, rfl, hs1, hb1⟩) | (go_at_call 11; refine (HF.out _ _ hb1 hs1).mono ?_; rintro e w2 ⟨p2, c2, rfl, hb2⟩))
    have HB2 : Hid (Bw w w2) := hb1.tr hb2
    clear hb1 hb2 hs1 HS HF
    go_upto_region 5 with (first | (go_at_call 11; refine (HD.out _ HB2.out).mono ?_; rintro e w3 ⟨p3, c3, rfl, hf3, hb3⟩))
    have HB3 : Hid (Bw w w3 ∧ FC w3 p3 c3 (ps.df a b 2574)) := ⟨HB2.out.tr hb3, hf3⟩
    clear hb3 hf3 HD
    go_upto_region 8 with (first | (go_at_call 14; refine (HA.out _ _ _ HB3.out.1 HB3.out.2).mono ?_; rintro e w4 ⟨p4, c4, rfl, hf4, hb4⟩))
    have HB4 : Hid (Bw w w4 ∧ FC w4 p4 c4 b) := ⟨HB3.out.1.tr hb4, hf4⟩
    clear hb4 hf4 HA
    go_upto_region 9 with (first | (go_at_call 21; refine (HSh.out _ _ _ HB4.out.1 HB4.out.2).mono ?_; rintro e w5 ⟨rfl, hb5⟩))
    have HB5 : Hid (Bw w w5) := HB4.out.1.tr hb5
    clear hb5 HSh
    go_upto_region 10 with (first | (go_at_call 11; refine (HN.out _ HB5.out).mono ?_; rintro e w6 ⟨p6, c6, rfl, hb6⟩))
    have HB6 : Hid (Bw w w6) := HB5.out.tr hb6
    clear hb6 HN
    go_upto_region 11 with (first | (go_at_call 11; refine (HR.out _ HB6.out).mono ?_; rintro e w7 ⟨p7, c7, rfl, hb7⟩))
    have HB7 : Hid (Bw w w7) := HB6.out.tr hb7
    clear hb7 HR
    go_wp2_with fail
    go_ret
    exact ⟨rfl, HB7.out⟩
  · have HD : Hid (∀ wx, Bw w wx → Calls Tryz.prog 11 #[.slice p a.length cp, .slice q b.length cq] wx fun e w' => ∃ z, e = .returned (.tuple #[.slice none 0 0, .iface 67 (.int .i64 z)]) ∧ Bw wx w') := fun wx h => diff_bad p q cp cq a b wx (ha.1.below h) (hb.1.below h) (hE.below h hE.size) hg
    obtain ⟨na, hna⟩ : ∃ n, a.length = n := ⟨_, rfl⟩
    obtain ⟨nb, hnb⟩ : ∃ n, b.length = n := ⟨_, rfl⟩
    rw [hna] at HD ⊢
    rw [hnb] at HD ⊢
    clear ha hb hE hg hna hnb
    go_enter Tryz.func6, Tryz.ntmps6
    go_upto_region 2 with (first | (go_at_call 19; refine HS.out.mono ?_; rintro e w1 ⟨p1, rfl, hs1, hb1⟩) | (go_at_call 11; refine (HF.out _ _ hb1 hs1).mono ?_; rintro e w2 ⟨p2, c2, rfl, hb2⟩))
    have HB2 : Hid (Bw w w2) := hb1.tr hb2
    clear hb1 hb2 hs1 HS HF
    go_wp2_with (first | (go_at_call 11; refine (HD.out _ HB2.out).mono ?_; rintro e w3 ⟨z, rfl, hb3⟩))
    go_ret
    exact ⟨rfl, HB2.out.tr hb3⟩
end Go.Proofs.YtomgjjngkffbbaaGreatDoor.fw
