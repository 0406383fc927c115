/- Package past: one step on again. Conditions: as each theorem says. -/
import Derived.Test.YtpgjmbbdhilhkaaGreatDoorZj
namespace Go.Proofs.YtpgjmbbdhilhkaaGreatDoor.ps
open Go.RowKit
open adr (C)
set_option maxRecDepth 100000 in
set_option maxHeartbeats 4000000 in
theorem redo_yes (bp : Nat) (xs : List Fl) (st : List St) (k : Nat) (s : St) (vn vs : Value) (w : World) (h : PS w bp xs st k vn vs) (hs : st[k]? = some s) (hl : xs.length ≤ 300) (hn : st.length ≤ 1000) :
    Calls Tryz.prog 11 #[.pointer (some ⟨bp, 0, none⟩)] w fun e w' => e = .returned (.bool true) ∧ (∃ vn', PS w' bp (wt xs s.b) st (k + 1) vn' vs) ∧ KP bp w w' := by
  obtain ⟨gs, cs, rfl, -⟩ := h.step hs
  obtain ⟨p, c, rfl, -, hc, -⟩ := h.now.full
  have HW : Hid (∀ wx g cf, FM wx p xs → FM wx (some ⟨g, 0, none⟩) [s.b] → Calls Tryz.prog 16 #[.slice p xs.length c, .slice (some ⟨g, 0, none⟩) 1 cf] wx fun e w' => (∃ v, e = .returned v ∧ FB w' v (wt xs s.b)) ∧ Below wx.heap.size wx w') := fun wx g cf h1 h2 => (with1 p c xs s.b g 0 cf wx h1 hl h2 hc).mono (fun e w' ⟨⟨v, e1, e2⟩, e3⟩ => ⟨⟨v, e1, own_base e2 (Nat.zero_le _)⟩, e3⟩)
  obtain ⟨c0, c1, c2⟩ := cells3 h.blk
  have hk3 : (k : Int) ≤ 1000 := by have := (List.getElem?_eq_some_iff.1 hs).1; omega
  have hk0 : (0 : Int) ≤ (k : Int) := by omega
  have HP : Hid (PS w bp xs st k (.slice p xs.length c) (.slice (some ⟨gs, 0, none⟩) st.length cs)) := h
  have hkl : (k : Int) < (st.length : Int) := by have := (List.getElem?_eq_some_iff.1 hs).1; omega
  have hke : ((k : Int) == (st.length : Int)) = false := by simp; omega
  have hke2 : ¬ (k : Int) = (st.length : Int) := by omega
  have HS : Hid (st[k]? = some s) := hs
  clear h hs hl
  go_enter Tryz.func11, Tryz.ntmps11
  go_wp2_with fail
  go_cut [12] (fun s12 wx => s12 = .bool false ∧ wx = w.drew)
  case first =>
    go_region
    all_goals
      go_wp2_with fail
      go_meet
      case rel => exact ⟨rfl, rfl⟩
  case rest =>
  obtain ⟨rfl, rfl⟩ := hcut
  have HP1 : Hid (PS w.drew bp xs st k (.slice p xs.length c) (.slice (some ⟨gs, 0, none⟩) st.length cs) ∧ KP bp w w.drew) := ⟨HP.out.next (Below.refl _ _).drew, KP.of (Below.refl _ _).drew (Nat.le_of_lt HP.out.lt)⟩
  generalize w.drew = W at *
  clear c0 c1 c2 hke hke2 HP
  go_upto_region 3 with fail
  obtain ⟨g', cs', e1, d1, d2⟩ := HP1.out.1.step HS.out
  injection e1 with e1 e2 e3
  clear e2
  subst e3
  injection e1 with e1
  injection e1 with e1 _ _
  subst e1
  obtain ⟨c0, c1, c2⟩ := cells3 HP1.out.1.blk
  have z0 := froz HP1.out.1.blk 0
  obtain ⟨ga, ca, hva, hma⟩ := (HP1.out.1.mem s (List.mem_of_getElem? HS.out)).2.one
  rw [hva] at d2
  have hpd : PS W.drew bp xs st k (.slice p xs.length c) (.slice (some ⟨gs, 0, none⟩) st.length cs) := HP1.out.1.next (Below.refl _ _).drew
  have hfa : FM W.drew (some ⟨ga, 0, none⟩) [s.b] := hma.below (Below.refl _ _).drew
  have hfp : FM W.drew p xs := by
    obtain ⟨p', c', e, hm, -⟩ := hpd.now.full
    injection e with e1 _ _
    subst e1
    exact hm
  have HQ : Hid (∀ w1, Below W.drew.heap.size W.drew w1 → PS w1 bp xs st k (.slice p xs.length c) (.slice (some ⟨gs, 0, none⟩) st.length cs) ∧ KP bp W w1) := fun w1 hb => ⟨hpd.next hb, ⟨(Below.refl _ _).drew.trans (hb.mono (Nat.le_of_lt hpd.lt)), fun g cs fr hg => (hb.block g (fm.lt_blk hg)).trans hg⟩⟩
  clear hpd
  go_cut [2] (fun s2 wx => s2 = .bool false ∧ ∃ v, PS wx bp (wt xs s.b) st k v (.slice (some ⟨gs, 0, none⟩) st.length cs) ∧ KP bp w wx)
  case first =>
    go_region_with (go_at_call 16; refine (HW.out _ _ _ hfp hfa).mono ?_; rintro e w1 ⟨⟨v, rfl, hv⟩, hb1⟩; obtain ⟨hq1, hq2⟩ := HQ.out w1 hb1; obtain ⟨pv, cv, rfl, -⟩ := hv.full; have HE : Hid (FB w1 (.slice pv (wt xs s.b).length cv) (wt xs s.b) ∧ PS w1 bp xs st k (.slice p xs.length c) (.slice (some ⟨gs, 0, none⟩) st.length cs) ∧ KP bp W w1) := ⟨hv, hq1, hq2⟩; obtain ⟨y0, y1, y2⟩ := cells3 hq1.blk; have z0' := froz hq1.blk 0; clear hv hq1 hq2 hb1)
    all_goals
      go_wp2_with fail
      go_meet
      case rel =>
        obtain ⟨h1, h2, h3⟩ := HE.out
        obtain ⟨h4, h5⟩ := h2.setNow h1
        exact ⟨rfl, _, h4, (HP1.out.2.trans h3).trans h5⟩
  case rest =>
  obtain ⟨rfl, v, hp, hk⟩ := hcut
  clear c0 c1 c2 d1 d2 z0 hfa hfp hma
  obtain ⟨c0, c1, c2⟩ := cells3 hp.blk
  have z2 := froz hp.blk 2
  have HF : Hid (PS wc bp (wt xs s.b) st k v (.slice (some ⟨gs, 0, none⟩) st.length cs) ∧ KP bp w wc) := ⟨hp, hk⟩
  clear hp hk
  go_wp2_with fail
  go_ret
  obtain ⟨h4, h5⟩ := HF.out.1.setBack (k + 1)
  rw [show ((k + 1 : Nat) : Int) = (k : Int) + 1 from rfl] at h4 h5
  exact ⟨rfl, ⟨_, h4⟩, HF.out.2.trans h5⟩
end Go.Proofs.YtpgjmbbdhilhkaaGreatDoor.ps
