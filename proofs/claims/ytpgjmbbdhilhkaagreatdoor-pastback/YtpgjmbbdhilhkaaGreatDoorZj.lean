/- Package past: one step back, one on again. Conditions: as each theorem says. -/
import Derived.Test.YtpgjmbbdhilhkaaGreatDoorZi
namespace Go.Proofs.YtpgjmbbdhilhkaaGreatDoor.ps
open Go.RowKit
open adr (C)
theorem FB.one {w : World} {v : Value} {f : Fl} (h : FB w v [f]) : ∃ g c, v = .slice (some ⟨g, 0, none⟩) 1 c ∧ FM w (some ⟨g, 0, none⟩) [f] := by
  obtain ⟨p, c, rfl, hm⟩ := h.shape
  rcases h.2 with ⟨e, h0⟩ | ⟨g, cap, cur, e, -⟩
  · cases h0
  · injection e with e1 e2 e3
    subst e1
    exact ⟨g, c, rfl, hm⟩
theorem row_ne {w : World} {v : Value} {n B r : Nat} {xs : List Value} {cs : Array Value} {t : TypeId} {fr : Nat × Nat} (h : w.ownsRow B 46 2 v n xs) (hr : w.heap[r]? = some (.cells cs t fr)) (ht : t ≠ 46) : v.ownBlock ≠ some r := by
  rcases h.2 with ⟨rfl, h0⟩ | ⟨g, cap, cur, rfl, -, hg, -⟩
  · simp [Value.ownBlock]
  · intro e
    have e' : g = r := by simpa [Value.ownBlock] using e
    subst e'
    rw [hr] at hg
    injection hg with hg
    injection hg with _ h2
    exact ht h2
/-- Another number of steps that are done. -/
theorem PS.setBack {w : World} {bp : Nat} {xs : List Fl} {st : List St} {k : Nat} {vn vs : Value} (h : PS w bp xs st k vn vs) (k' : Nat) : PS (w.setCell ⟨bp, 2, none⟩ (.int .i64 k')) bp xs st k' vn vs ∧ KP bp w (w.setCell ⟨bp, 2, none⟩ (.int .i64 k')) := by
  have hk := KP.set (o := 2) h.blk (by decide) (Nat.le_refl bp) (.int .i64 k')
  exact ⟨⟨by rw [fm.blk_set h.blk]; rfl, h.now.kp hk, ownsRow_setCell_other h.row (a := ⟨bp, 2, none⟩) (row_ne h.row h.blk (by decide)) _, fun s hs => ⟨(h.mem s hs).1.kp hk, (h.mem s hs).2.kp hk⟩⟩, hk⟩
/-- Another sheet. -/
theorem PS.setNow {w : World} {bp : Nat} {xs ys : List Fl} {st : List St} {k : Nat} {vn vs v : Value} (h : PS w bp xs st k vn vs) (hv : FB w v ys) : PS (w.setCell ⟨bp, 0, none⟩ v) bp ys st k v vs ∧ KP bp w (w.setCell ⟨bp, 0, none⟩ v) := by
  have hk := KP.set (o := 0) h.blk (by decide) (Nat.le_refl bp) v
  exact ⟨⟨by rw [fm.blk_set h.blk]; rfl, hv.kp hk, ownsRow_setCell_other h.row (a := ⟨bp, 0, none⟩) (row_ne h.row h.blk (by decide)) _, fun s hs => ⟨(h.mem s hs).1.kp hk, (h.mem s hs).2.kp hk⟩⟩, hk⟩
/-- A step that is asked for lies there. -/
theorem PS.step {w : World} {bp : Nat} {xs : List Fl} {st : List St} {k : Nat} {vn vs : Value} (h : PS w bp xs st k vn vs) {i : Nat} {s : St} (hs : st[i]? = some s) : ∃ g c, vs = .slice (some ⟨g, 0, none⟩) st.length c ∧ w.cell? ⟨g, i * 2, none⟩ = some s.va ∧ w.cell? ⟨g, i * 2 + 1, none⟩ = some s.vb := by
  have hi := (List.getElem?_eq_some_iff.1 hs).1
  rcases h.row.2 with ⟨e, h0⟩ | ⟨g, cap, cur, e, -, hg, hc, -, hs', ht⟩
  · omega
  · obtain ⟨h1, h2⟩ := stF_at hs
    refine ⟨g, cap, e, ?_, ?_⟩
    · rw [← ht, List.getElem?_take] at h1
      split at h1
      · simp [World.cell?, hg]; simpa using h1
      · cases h1
    · rw [← ht, List.getElem?_take] at h2
      split at h2
      · simp [World.cell?, hg]; simpa using h2
      · cases h2
set_option maxHeartbeats 1600000 in
theorem undo_no (bp : Nat) (xs : List Fl) (st : List St) (vn vs : Value) (w : World) (h : PS w bp xs st 0 vn vs) :
    Calls Tryz.prog 9 #[.pointer (some ⟨bp, 0, none⟩)] w fun e w' => e = .returned (.bool false) ∧ w' = w := by
  obtain ⟨c0, c1, c2⟩ := cells3 h.blk
  rw [show ((0 : Nat) : Int) = 0 from rfl] at c2
  clear h
  go_enter Tryz.func9, Tryz.ntmps9
  go_wp2_with fail
  go_ret
  exact ⟨rfl, rfl⟩
set_option maxRecDepth 100000 in
set_option maxHeartbeats 4000000 in
theorem undo_yes (bp : Nat) (xs : List Fl) (st : List St) (k : Nat) (s : St) (vn vs : Value) (w : World) (h : PS w bp xs st (k + 1) vn vs) (hs : st[k]? = some s) (hl : xs.length ≤ 300) (hn : st.length ≤ 1000) :
    Calls Tryz.prog 9 #[.pointer (some ⟨bp, 0, none⟩)] w fun e w' => e = .returned (.bool true) ∧ (∃ vn', PS w' bp (wt xs s.a) st k vn' vs) ∧ KP bp w w' := by
  obtain ⟨gs, cs, rfl, -⟩ := h.step hs
  obtain ⟨p, c, rfl, hm, hc, -⟩ := h.now.full
  have HW : Hid (∀ wx g cf, FM wx p xs → FM wx (some ⟨g, 0, none⟩) [s.a] → Calls Tryz.prog 16 #[.slice p xs.length c, .slice (some ⟨g, 0, none⟩) 1 cf] wx fun e w' => (∃ v, e = .returned v ∧ FB w' v (wt xs s.a)) ∧ Below wx.heap.size wx w') := fun wx g cf h1 h2 => (with1 p c xs s.a g 0 cf wx h1 hl h2 hc).mono (fun e w' ⟨⟨v, e1, e2⟩, e3⟩ => ⟨⟨v, e1, own_base e2 (Nat.zero_le _)⟩, e3⟩)
  obtain ⟨hp1, hk1⟩ := h.setBack k
  obtain ⟨c0, c1, c2⟩ := cells3 h.blk
  have z2 := froz h.blk 2
  rw [show ((k + 1 : Nat) : Int) = (k : Int) + 1 from rfl] at c2
  have hk3 : (k : Int) ≤ 1000 := by have := (List.getElem?_eq_some_iff.1 hs).1; omega
  have hk0 : (0 : Int) ≤ (k : Int) := by omega
  have HP : Hid (PS (w.setCell ⟨bp, 2, none⟩ (.int .i64 k)) bp xs st k (.slice p xs.length c) (.slice (some ⟨gs, 0, none⟩) st.length cs) ∧ KP bp w (w.setCell ⟨bp, 2, none⟩ (.int .i64 k))) := ⟨hp1, hk1⟩
  have hkl : (k : Int) < (st.length : Int) := by have := (List.getElem?_eq_some_iff.1 hs).1; omega
  have HS : Hid (st[k]? = some s) := hs
  clear h hp1 hk1 hm hs hl
  go_enter Tryz.func9, Tryz.ntmps9
  go_upto_region 4 with fail
  generalize w.setCell ⟨bp, 2, none⟩ (.int .i64 k) = W at *
  clear c0 c1 c2 z2
  obtain ⟨g', cs', e1, d1, d2⟩ := HP.out.1.step HS.out
  injection e1 with e1 _ _
  injection e1 with e1
  injection e1 with e1 _ _
  subst e1
  obtain ⟨c0, c1, c2⟩ := cells3 HP.out.1.blk
  have z0 := froz HP.out.1.blk 0
  obtain ⟨ga, ca, hva, hma⟩ := (HP.out.1.mem s (List.mem_of_getElem? HS.out)).1.one
  rw [hva] at d1
  have hpd : PS W.drew bp xs st k (.slice p xs.length c) (.slice (some ⟨gs, 0, none⟩) st.length cs) := HP.out.1.next (Below.refl _ _).drew
  have hfa : FM W.drew (some ⟨ga, 0, none⟩) [s.a] := hma.below (Below.refl _ _).drew
  have hfp : FM W.drew p xs := by
    obtain ⟨p', c', e, hm, -⟩ := hpd.now.full
    injection e with e1 _ _
    subst e1
    exact hm
  have HQ : Hid (∀ w1, Below W.drew.heap.size W.drew w1 → PS w1 bp xs st k (.slice p xs.length c) (.slice (some ⟨gs, 0, none⟩) st.length cs) ∧ KP bp W w1) := fun w1 hb => ⟨hpd.next hb, ⟨(Below.refl _ _).drew.trans (hb.mono (Nat.le_of_lt hpd.lt)), fun g cs fr hg => (hb.block g (fm.lt_blk hg)).trans hg⟩⟩
  clear hpd
  go_region_with (go_at_call 16; refine (HW.out _ _ _ hfp hfa).mono ?_; rintro e w1 ⟨⟨v, rfl, hv⟩, hb1⟩; obtain ⟨hq1, hq2⟩ := HQ.out w1 hb1; obtain ⟨pv, cv, rfl, -⟩ := hv.full; have HE : Hid (FB w1 (.slice pv (wt xs s.a).length cv) (wt xs s.a) ∧ PS w1 bp xs st k (.slice p xs.length c) (.slice (some ⟨gs, 0, none⟩) st.length cs) ∧ KP bp W w1) := ⟨hv, hq1, hq2⟩; obtain ⟨y0, y1, y2⟩ := cells3 hq1.blk; have z0' := froz hq1.blk 0; clear hv hq1 hq2 hb1)
  all_goals
    go_wp2_with fail
    go_ret
    obtain ⟨h1, h2, h3⟩ := HE.out
    obtain ⟨h4, h5⟩ := h2.setNow h1
    exact ⟨rfl, ⟨_, h4⟩, (HP.out.2.trans h3).trans h5⟩
end Go.Proofs.YtpgjmbbdhilhkaaGreatDoor.ps
