/- Package past: what lies in memory of a past; the sheet as it is, how far one could go. Conditions: as each theorem says. -/
import Derived.Test.YtcekgefkimbfaaaGreatDoorJh
import Derived.Deep.RegionLaw
import Derived.Deep.RegionLawGrows
namespace Go.Proofs.YtcekgefkimbfaaaGreatDoor.ps
open Go.RowKit
open adr (C)
/-- A step: the texts ahead of it and behind it, and the two lists. -/
structure St where
  a : List Fl
  b : List Fl
  va : Value
  vb : Value
def stF (st : List St) : List Value := st.flatMap fun s => [s.va, s.vb]
theorem stF_len (st : List St) : (stF st).length = st.length * 2 := by
  induction st with
  | nil => rfl
  | cons s l ih => show (s.va :: s.vb :: stF l).length = _; simp [ih]; omega
theorem stF_app (a b : List St) : stF (a ++ b) = stF a ++ stF b := by simp [stF]
theorem stF_at {st : List St} {i : Nat} {s : St} (h : st[i]? = some s) : (stF st)[i * 2]? = some s.va ∧ (stF st)[i * 2 + 1]? = some s.vb := by
  induction st generalizing i with
  | nil => simp at h
  | cons x l ih =>
    cases i with
    | zero => simp at h; subst h; exact ⟨rfl, rfl⟩
    | succ i =>
      have h' : l[i]? = some s := by simpa using h
      obtain ⟨h1, h2⟩ := ih h'
      show (x.va :: x.vb :: stF l)[(i + 1) * 2]? = _ ∧ (x.va :: x.vb :: stF l)[(i + 1) * 2 + 1]? = _
      rw [show (i + 1) * 2 = i * 2 + 1 + 1 by omega]
      exact ⟨by simpa using h1, by simpa using h2⟩
/-- What is kept while a past is walked on: all below it, every list of cells with their texts, every other past. -/
structure KP (bp : Nat) (w w' : World) : Prop where
  below : Below bp w w'
  keep : ∀ (b : Nat) (cs : Array Value) (fr : Nat × Nat), w.heap[b]? = some (.cells cs 36 fr) → w'.heap[b]? = some (.cells cs 36 fr)
  lst : ∀ (b : Nat) (cs : Array Value) (fr : Nat × Nat), w.heap[b]? = some (.cells cs 22 fr) → w'.heap[b]? = some (.cells cs 22 fr)
  oth : ∀ (b : Nat) (cs : Array Value) (fr : Nat × Nat), b ≠ bp → w.heap[b]? = some (.cells cs 58 fr) → w'.heap[b]? = some (.cells cs 58 fr)
theorem KP.refl (bp : Nat) (w : World) : KP bp w w := ⟨Below.refl _ _, fun _ _ _ h => h, fun _ _ _ h => h, fun _ _ _ _ h => h⟩
theorem KP.trans {bp : Nat} {a b c : World} (h : KP bp a b) (h2 : KP bp b c) : KP bp a c := ⟨h.below.trans h2.below, fun g cs fr hg => h2.keep g cs fr (h.keep g cs fr hg), fun g cs fr hg => h2.lst g cs fr (h.lst g cs fr hg), fun g cs fr hn hg => h2.oth g cs fr hn (h.oth g cs fr hn hg)⟩
theorem KP.of {bp : Nat} {w w' : World} (h : Below w.heap.size w w') (hb : bp ≤ w.heap.size) : KP bp w w' := ⟨h.mono hb, fun g _ _ hg => (h.block g (fm.lt_blk hg)).trans hg, fun g _ _ hg => (h.block g (fm.lt_blk hg)).trans hg, fun g _ _ _ hg => (h.block g (fm.lt_blk hg)).trans hg⟩
theorem KP.set {bp : Nat} {w : World} {o : Nat} {cs : Array Value} {t : TypeId} {fr : Nat × Nat} (hb : w.heap[bp]? = some (.cells cs t fr)) (ht : t ≠ 36) (hp : bp ≤ bp) (u : Value) (ht2 : t ≠ 22 := by decide) : KP bp w (w.setCell ⟨bp, o, none⟩ u) :=
  have key : ∀ (y : TypeId), t ≠ y → ∀ (g : Nat) (cs : Array Value) (fr : Nat × Nat), w.heap[g]? = some (.cells cs y fr) → (w.setCell ⟨bp, o, none⟩ u).heap[g]? = some (.cells cs y fr) := fun y hy g _ _ hg => (Below.heap_setCell _ _ _ _ (fun e => by
    have e' : g = bp := e
    subst e'
    rw [hb] at hg
    injection hg with hg
    injection hg with _ h2
    exact hy h2)).trans hg
  ⟨(Below.refl _ _).setCell hp u, key 36 ht, key 22 ht2, fun _ _ _ hn hg => (Below.heap_setCell _ _ _ _ hn).trans hg⟩
theorem FB.kp {bp : Nat} {w w' : World} {v : Value} {xs : List Fl} (h : FB w v xs) (hk : KP bp w w') : FB w' v xs := by
  refine ⟨h.1, ?_⟩
  rcases h.2 with h0 | ⟨g, cap, cur, h1, h2, hg, h4⟩
  · exact .inl h0
  · exact .inr ⟨g, cap, cur, h1, h2, hk.keep _ _ _ hg, h4⟩
/-- A past, as it lies in memory: its sheet, its steps, how many of them are done. -/
structure PS (w : World) (bp : Nat) (xs : List Fl) (st : List St) (k : Nat) (vn vs : Value) : Prop where
  blk : w.heap[bp]? = some (.cells #[vn, vs, .int .i64 k] 58 (0, 0))
  now : FB w vn xs
  row : w.ownsRow bp 63 2 vs st.length (stF st)
  mem : ∀ s ∈ st, FB w s.va s.a ∧ FB w s.vb s.b
theorem PS.next {w w' : World} {bp : Nat} {xs : List Fl} {st : List St} {k : Nat} {vn vs : Value} (h : PS w bp xs st k vn vs) (hb : Below w.heap.size w w') : PS w' bp xs st k vn vs := by
  refine ⟨(hb.block _ (fm.lt_blk h.blk)).trans h.blk, h.now.below hb, ?_, fun s hs => ⟨(h.mem s hs).1.below hb, (h.mem s hs).2.below hb⟩⟩
  refine ⟨h.row.1, ?_⟩
  rcases h.row.2 with h0 | ⟨g, cap, cur, h1, h2, hg, h4⟩
  · exact .inl h0
  · exact .inr ⟨g, cap, cur, h1, h2, (hb.block g (fm.lt_blk hg)).trans hg, h4⟩
theorem PS.steps {w : World} {bp : Nat} {xs : List Fl} {st : List St} {k : Nat} {vn vs : Value} (h : PS w bp xs st k vn vs) : ∃ p c, vs = .slice p st.length c ∧ st.length ≤ c := by
  rcases h.row.2 with ⟨e, h0⟩ | ⟨g, cap, cur, e, -, -, hc, -⟩
  · exact ⟨none, 0, by rw [e, h0], by omega⟩
  · exact ⟨_, _, e, hc⟩
theorem PS.lt {w : World} {bp : Nat} {xs : List Fl} {st : List St} {k : Nat} {vn vs : Value} (h : PS w bp xs st k vn vs) : bp < w.heap.size := fm.lt_blk h.blk
set_option maxHeartbeats 1600000 in
theorem now_any (bp : Nat) (xs : List Fl) (st : List St) (k : Nat) (vn vs : Value) (w : World) (h : PS w bp xs st k vn vs) (hl : xs.length ≤ 1000) :
    Calls Tryz.prog 17 #[.pointer (some ⟨bp, 0, none⟩)] w fun e w' => (∃ v, e = .returned v ∧ FB w' v xs) ∧ Below w.heap.size w w' := by
  obtain ⟨p, c, rfl, hm, hc, hn⟩ := h.now.full
  have HC : Hid (Calls Tryz.prog 25 #[.slice p xs.length c] w fun e w' => (∃ v, e = .returned v ∧ w'.ownsRow w.heap.size 36 3 v xs.length (flF xs)) ∧ Below w.heap.size w w') := clone_any p c xs w hm (by omega) hn
  obtain ⟨c0, c1, c2⟩ := cells3 h.blk
  clear h hm hc hn
  go_enter Tryz.func17, Tryz.ntmps17
  go_wp2_with fail
  refine HC.out.mono ?_
  rintro e w1 ⟨⟨v, rfl, ho⟩, hb⟩
  go_wp2_with fail
  go_ret
  exact ⟨⟨v, rfl, own_base ho (Nat.zero_le _)⟩, hb⟩
set_option maxHeartbeats 1600000 in
theorem depth_any (bp : Nat) (xs : List Fl) (st : List St) (k : Nat) (vn vs : Value) (w : World) (h : PS w bp xs st k vn vs) (hl : st.length ≤ 1000) (hk : k ≤ st.length) :
    Calls Tryz.prog 18 #[.pointer (some ⟨bp, 0, none⟩)] w fun e w' => e = .returned (.tuple #[.int .i64 k, .int .i64 ((st.length : Int) - k)]) ∧ Below w.heap.size w w' := by
  obtain ⟨p, c, rfl, -⟩ := h.steps
  obtain ⟨c0, c1, c2⟩ := cells3 h.blk
  obtain ⟨m, hm⟩ : ∃ m, st.length = m := ⟨_, rfl⟩
  have hm1 : (m : Int) ≤ 1000 := by omega
  have hk1 : (k : Int) ≤ (m : Int) := by omega
  rw [hm] at c1 ⊢
  clear h
  go_enter Tryz.func18, Tryz.ntmps18
  go_wp2_with fail
  go_region
  all_goals
    go_wp2_with fail
    exact bodyPost_ret (v := .tuple #[.int .i64 k, .int .i64 ((m : Int) - k)]) (by simp [results, Tryz.results18, go_sem]) rfl ⟨rfl, (Below.refl _ _).drew⟩
end Go.Proofs.YtcekgefkimbfaaaGreatDoor.ps
/- Package past: one step back, one on again. Conditions: as each theorem says. -/
namespace Go.Proofs.YtcekgefkimbfaaaGreatDoor.ps
open Go.RowKit
open adr (C)
theorem row_ne {w : World} {v : Value} {n B r : Nat} {xs : List Value} {cs : Array Value} {t : TypeId} {fr : Nat × Nat} (h : w.ownsRow B 63 2 v n xs) (hr : w.heap[r]? = some (.cells cs t fr)) (ht : t ≠ 63) : v.ownBlock ≠ some r := by
  rcases h.2 with ⟨rfl, h0⟩ | ⟨g, cap, cur, rfl, -, hg, -⟩
  · simp [Value.ownBlock]
  · intro e
    have e' : g = r := by simpa [Value.ownBlock] using e
    subst e'
    rw [hr] at hg
    injection hg with hg
    injection hg with _ h2
    exact ht h2
/-- Another number of steps that are done. -/
theorem PS.setBack {w : World} {bp : Nat} {xs : List Fl} {st : List St} {k : Nat} {vn vs : Value} (h : PS w bp xs st k vn vs) (k' : Nat) : PS (w.setCell ⟨bp, 2, none⟩ (.int .i64 k')) bp xs st k' vn vs ∧ KP bp w (w.setCell ⟨bp, 2, none⟩ (.int .i64 k')) := by
  have hk := KP.set (o := 2) h.blk (by decide) (Nat.le_refl bp) (.int .i64 k')
  exact ⟨⟨by rw [fm.blk_set h.blk]; rfl, h.now.kp hk, ownsRow_setCell_other h.row (a := ⟨bp, 2, none⟩) (row_ne h.row h.blk (by decide)) _, fun s hs => ⟨(h.mem s hs).1.kp hk, (h.mem s hs).2.kp hk⟩⟩, hk⟩
/-- Another sheet. -/
theorem PS.setNow {w : World} {bp : Nat} {xs ys : List Fl} {st : List St} {k : Nat} {vn vs v : Value} (h : PS w bp xs st k vn vs) (hv : FB w v ys) : PS (w.setCell ⟨bp, 0, none⟩ v) bp ys st k v vs ∧ KP bp w (w.setCell ⟨bp, 0, none⟩ v) := by
  have hk := KP.set (o := 0) h.blk (by decide) (Nat.le_refl bp) v
  exact ⟨⟨by rw [fm.blk_set h.blk]; rfl, hv.kp hk, ownsRow_setCell_other h.row (a := ⟨bp, 0, none⟩) (row_ne h.row h.blk (by decide)) _, fun s hs => ⟨(h.mem s hs).1.kp hk, (h.mem s hs).2.kp hk⟩⟩, hk⟩
/-- A step that is asked for lies there. -/
theorem PS.step {w : World} {bp : Nat} {xs : List Fl} {st : List St} {k : Nat} {vn vs : Value} (h : PS w bp xs st k vn vs) {i : Nat} {s : St} (hs : st[i]? = some s) : ∃ g c, vs = .slice (some ⟨g, 0, none⟩) st.length c ∧ w.cell? ⟨g, i * 2, none⟩ = some s.va ∧ w.cell? ⟨g, i * 2 + 1, none⟩ = some s.vb := by
  have hi := (List.getElem?_eq_some_iff.1 hs).1
  rcases h.row.2 with ⟨e, h0⟩ | ⟨g, cap, cur, e, -, hg, hc, -, hs', ht⟩
  · omega
  · obtain ⟨h1, h2⟩ := stF_at hs
    refine ⟨g, cap, e, ?_, ?_⟩
    · rw [← ht, List.getElem?_take] at h1
      split at h1
      · simp [World.cell?, hg]; simpa using h1
      · cases h1
    · rw [← ht, List.getElem?_take] at h2
      split at h2
      · simp [World.cell?, hg]; simpa using h2
      · cases h2
set_option maxHeartbeats 1600000 in
theorem undo_no (bp : Nat) (xs : List Fl) (st : List St) (vn vs : Value) (w : World) (h : PS w bp xs st 0 vn vs) :
    Calls Tryz.prog 9 #[.pointer (some ⟨bp, 0, none⟩)] w fun e w' => e = .returned (.bool false) ∧ w' = w := by
  obtain ⟨c0, c1, c2⟩ := cells3 h.blk
  rw [show ((0 : Nat) : Int) = 0 from rfl] at c2
  clear h
  go_enter Tryz.func9, Tryz.ntmps9
  go_wp2_with fail
  go_ret
  exact ⟨rfl, rfl⟩
set_option maxRecDepth 100000 in
set_option maxHeartbeats 4000000 in
theorem undo_yes (bp : Nat) (xs : List Fl) (st : List St) (k : Nat) (s : St) (vn vs : Value) (w : World) (h : PS w bp xs st (k + 1) vn vs) (hs : st[k]? = some s) (hs6 : s.a.length ≤ 50000) (hl : xs.length ≤ 300) (hn : st.length ≤ 1000) :
    Calls Tryz.prog 9 #[.pointer (some ⟨bp, 0, none⟩)] w fun e w' => e = .returned (.bool true) ∧ (∃ vn', PS w' bp (wl s.a xs) st k vn' vs) ∧ KP bp w w' := by
  obtain ⟨gs, cs, rfl, -⟩ := h.step hs
  obtain ⟨p, c, rfl, hm, hc, -⟩ := h.now.full
  have HW : Hid (∀ wx g cf, FM wx p xs → FM wx g s.a → Calls Tryz.prog 27 #[.slice p xs.length c, .slice g s.a.length cf] wx fun e w' => (∃ v, e = .returned v ∧ FB w' v (wl s.a xs)) ∧ Below wx.heap.size wx w') := fun wx g cf h1 h2 => (with_any p g c cf xs s.a wx h1 hl hc h2 hs6).mono (fun e w' ⟨⟨v, e1, e2⟩, e3⟩ => ⟨⟨v, e1, own_base e2 (Nat.zero_le _)⟩, e3⟩)
  obtain ⟨hp1, hk1⟩ := h.setBack k
  obtain ⟨c0, c1, c2⟩ := cells3 h.blk
  have z2 := froz h.blk 2
  rw [show ((k + 1 : Nat) : Int) = (k : Int) + 1 from rfl] at c2
  have hk3 : (k : Int) ≤ 1000 := by have := (List.getElem?_eq_some_iff.1 hs).1; omega
  have hk0 : (0 : Int) ≤ (k : Int) := by omega
  have HP : Hid (PS (w.setCell ⟨bp, 2, none⟩ (.int .i64 k)) bp xs st k (.slice p xs.length c) (.slice (some ⟨gs, 0, none⟩) st.length cs) ∧ KP bp w (w.setCell ⟨bp, 2, none⟩ (.int .i64 k))) := ⟨hp1, hk1⟩
  have hkl : (k : Int) < (st.length : Int) := by have := (List.getElem?_eq_some_iff.1 hs).1; omega
  have HS : Hid (st[k]? = some s) := hs
  clear h hp1 hk1 hm hs hl
  go_enter Tryz.func9, Tryz.ntmps9
  go_upto_region 4 with fail
  generalize w.setCell ⟨bp, 2, none⟩ (.int .i64 k) = W at *
  clear c0 c1 c2 z2
  obtain ⟨g', cs', e1, d1, d2⟩ := HP.out.1.step HS.out
  injection e1 with e1 _ _
  injection e1 with e1
  injection e1 with e1 _ _
  subst e1
  obtain ⟨c0, c1, c2⟩ := cells3 HP.out.1.blk
  have z0 := froz HP.out.1.blk 0
  obtain ⟨ga, ca, hva, hma, -⟩ := (HP.out.1.mem s (List.mem_of_getElem? HS.out)).1.full
  rw [hva] at d1
  have hpd : PS W.drew bp xs st k (.slice p xs.length c) (.slice (some ⟨gs, 0, none⟩) st.length cs) := HP.out.1.next (Below.refl _ _).drew
  have hfa : FM W.drew ga s.a := hma.below (Below.refl _ _).drew
  have hfp : FM W.drew p xs := by
    obtain ⟨p', c', e, hm, -⟩ := hpd.now.full
    injection e with e1 _ _
    subst e1
    exact hm
  have HQ : Hid (∀ w1, Below W.drew.heap.size W.drew w1 → PS w1 bp xs st k (.slice p xs.length c) (.slice (some ⟨gs, 0, none⟩) st.length cs) ∧ KP bp W w1) := fun w1 hb => ⟨hpd.next hb, ⟨(Below.refl _ _).drew.trans (hb.mono (Nat.le_of_lt hpd.lt)), fun g cs fr hg => (hb.block g (fm.lt_blk hg)).trans hg, fun g cs fr hg => (hb.block g (fm.lt_blk hg)).trans hg, fun g cs fr _ hg => (hb.block g (fm.lt_blk hg)).trans hg⟩⟩
  clear hpd
  go_region_with (go_at_call 27; refine (HW.out _ _ _ hfp hfa).mono ?_; rintro e w1 ⟨⟨v, rfl, hv⟩, hb1⟩; obtain ⟨hq1, hq2⟩ := HQ.out w1 hb1; obtain ⟨pv, cv, rfl, -⟩ := hv.full; have HE : Hid (FB w1 (.slice pv (wl s.a xs).length cv) (wl s.a xs) ∧ PS w1 bp xs st k (.slice p xs.length c) (.slice (some ⟨gs, 0, none⟩) st.length cs) ∧ KP bp W w1) := ⟨hv, hq1, hq2⟩; obtain ⟨y0, y1, y2⟩ := cells3 hq1.blk; have z0' := froz hq1.blk 0; clear hv hq1 hq2 hb1)
  all_goals
    go_wp2_with fail
    go_ret
    obtain ⟨h1, h2, h3⟩ := HE.out
    obtain ⟨h4, h5⟩ := h2.setNow h1
    exact ⟨rfl, ⟨_, h4⟩, (HP.out.2.trans h3).trans h5⟩
set_option maxRecDepth 100000 in
set_option maxHeartbeats 4000000 in
theorem redo_yes (bp : Nat) (xs : List Fl) (st : List St) (k : Nat) (s : St) (vn vs : Value) (w : World) (h : PS w bp xs st k vn vs) (hs : st[k]? = some s) (hs6 : s.b.length ≤ 50000) (hl : xs.length ≤ 300) (hn : st.length ≤ 1000) :
    Calls Tryz.prog 10 #[.pointer (some ⟨bp, 0, none⟩)] w fun e w' => e = .returned (.bool true) ∧ (∃ vn', PS w' bp (wl s.b xs) st (k + 1) vn' vs) ∧ KP bp w w' := by
  obtain ⟨gs, cs, rfl, -⟩ := h.step hs
  obtain ⟨p, c, rfl, -, hc, -⟩ := h.now.full
  have HW : Hid (∀ wx g cf, FM wx p xs → FM wx g s.b → Calls Tryz.prog 27 #[.slice p xs.length c, .slice g s.b.length cf] wx fun e w' => (∃ v, e = .returned v ∧ FB w' v (wl s.b xs)) ∧ Below wx.heap.size wx w') := fun wx g cf h1 h2 => (with_any p g c cf xs s.b wx h1 hl hc h2 hs6).mono (fun e w' ⟨⟨v, e1, e2⟩, e3⟩ => ⟨⟨v, e1, own_base e2 (Nat.zero_le _)⟩, e3⟩)
  obtain ⟨c0, c1, c2⟩ := cells3 h.blk
  have hk3 : (k : Int) ≤ 1000 := by have := (List.getElem?_eq_some_iff.1 hs).1; omega
  have hk0 : (0 : Int) ≤ (k : Int) := by omega
  have HP : Hid (PS w bp xs st k (.slice p xs.length c) (.slice (some ⟨gs, 0, none⟩) st.length cs)) := h
  have hkl : (k : Int) < (st.length : Int) := by have := (List.getElem?_eq_some_iff.1 hs).1; omega
  have hke : ((k : Int) == (st.length : Int)) = false := by simp; omega
  have hke2 : ¬ (k : Int) = (st.length : Int) := by omega
  have HS : Hid (st[k]? = some s) := hs
  clear h hs hl
  go_enter Tryz.func10, Tryz.ntmps10
  go_wp2_with fail
  go_cut [12] (fun s12 wx => s12 = .bool false ∧ wx = w.drew)
  case first =>
    go_region
    all_goals
      go_wp2_with fail
      go_meet
      case rel => exact ⟨rfl, rfl⟩
  case rest =>
  obtain ⟨rfl, rfl⟩ := hcut
  have HP1 : Hid (PS w.drew bp xs st k (.slice p xs.length c) (.slice (some ⟨gs, 0, none⟩) st.length cs) ∧ KP bp w w.drew) := ⟨HP.out.next (Below.refl _ _).drew, KP.of (Below.refl _ _).drew (Nat.le_of_lt HP.out.lt)⟩
  generalize w.drew = W at *
  clear c0 c1 c2 hke hke2 HP
  go_upto_region 3 with fail
  obtain ⟨g', cs', e1, d1, d2⟩ := HP1.out.1.step HS.out
  injection e1 with e1 e2 e3
  clear e2
  subst e3
  injection e1 with e1
  injection e1 with e1 _ _
  subst e1
  obtain ⟨c0, c1, c2⟩ := cells3 HP1.out.1.blk
  have z0 := froz HP1.out.1.blk 0
  obtain ⟨ga, ca, hva, hma, -⟩ := (HP1.out.1.mem s (List.mem_of_getElem? HS.out)).2.full
  rw [hva] at d2
  have hpd : PS W.drew bp xs st k (.slice p xs.length c) (.slice (some ⟨gs, 0, none⟩) st.length cs) := HP1.out.1.next (Below.refl _ _).drew
  have hfa : FM W.drew ga s.b := hma.below (Below.refl _ _).drew
  have hfp : FM W.drew p xs := by
    obtain ⟨p', c', e, hm, -⟩ := hpd.now.full
    injection e with e1 _ _
    subst e1
    exact hm
  have HQ : Hid (∀ w1, Below W.drew.heap.size W.drew w1 → PS w1 bp xs st k (.slice p xs.length c) (.slice (some ⟨gs, 0, none⟩) st.length cs) ∧ KP bp W w1) := fun w1 hb => ⟨hpd.next hb, ⟨(Below.refl _ _).drew.trans (hb.mono (Nat.le_of_lt hpd.lt)), fun g cs fr hg => (hb.block g (fm.lt_blk hg)).trans hg, fun g cs fr hg => (hb.block g (fm.lt_blk hg)).trans hg, fun g cs fr _ hg => (hb.block g (fm.lt_blk hg)).trans hg⟩⟩
  clear hpd
  go_cut [2] (fun s2 wx => s2 = .bool false ∧ ∃ v, PS wx bp (wl s.b xs) st k v (.slice (some ⟨gs, 0, none⟩) st.length cs) ∧ KP bp w wx)
  case first =>
    go_region_with (go_at_call 27; refine (HW.out _ _ _ hfp hfa).mono ?_; rintro e w1 ⟨⟨v, rfl, hv⟩, hb1⟩; obtain ⟨hq1, hq2⟩ := HQ.out w1 hb1; obtain ⟨pv, cv, rfl, -⟩ := hv.full; have HE : Hid (FB w1 (.slice pv (wl s.b xs).length cv) (wl s.b xs) ∧ PS w1 bp xs st k (.slice p xs.length c) (.slice (some ⟨gs, 0, none⟩) st.length cs) ∧ KP bp W w1) := ⟨hv, hq1, hq2⟩; obtain ⟨y0, y1, y2⟩ := cells3 hq1.blk; have z0' := froz hq1.blk 0; clear hv hq1 hq2 hb1)
    all_goals
      go_wp2_with fail
      go_meet
      case rel =>
        obtain ⟨h1, h2, h3⟩ := HE.out
        obtain ⟨h4, h5⟩ := h2.setNow h1
        exact ⟨rfl, _, h4, (HP1.out.2.trans h3).trans h5⟩
  case rest =>
  obtain ⟨rfl, v, hp, hk⟩ := hcut
  clear c0 c1 c2 d1 d2 z0 hfa hfp hma
  obtain ⟨c0, c1, c2⟩ := cells3 hp.blk
  have z2 := froz hp.blk 2
  have HF : Hid (PS wc bp (wl s.b xs) st k v (.slice (some ⟨gs, 0, none⟩) st.length cs) ∧ KP bp w wc) := ⟨hp, hk⟩
  clear hp hk
  go_wp2_with fail
  go_ret
  obtain ⟨h4, h5⟩ := HF.out.1.setBack (k + 1)
  rw [show ((k + 1 : Nat) : Int) = (k : Int) + 1 from rfl] at h4 h5
  exact ⟨rfl, ⟨_, h4⟩, HF.out.2.trans h5⟩
end Go.Proofs.YtcekgefkimbfaaaGreatDoor.ps
/- Package past: a step is laid behind those that are done. Conditions: as each theorem says. -/
namespace Go.Proofs.YtcekgefkimbfaaaGreatDoor.ps
open Go.RowKit
open adr (C)
theorem info46 : (Tryz.prog.info? 63).map (fun i => (i.zero, i.size, i.bytes)) = some (some (.agg #[.slice none 0 0, .slice none 0 0]), 2, 48) := by kernel_rfl
theorem PS.put {W w7 : World} {bp : Nat} {xs : List Fl} {st : List St} {k : Nat} {vn vs v' : Value} {s : St} (h : PS W bp xs st k vn vs) (hg : W.grownBy w7 vs.ownBlock) (ho : w7.ownsRow bp 63 2 v' (st.length + 1) (stF st ++ [s.va, s.vb])) (hm : FB W s.va s.a ∧ FB W s.vb s.b) :
    PS (w7.setCell ⟨bp, 1, none⟩ v') bp xs (st ++ [s]) k vn v' ∧ KP bp W (w7.setCell ⟨bp, 1, none⟩ v') := by
  have hb7 : w7.heap[bp]? = some (.cells #[vn, vs, .int .i64 k] 58 (0, 0)) := (hg.block bp h.lt (fun e => row_ne h.row h.blk (by decide) e.symm)).trans h.blk
  have hk1 : KP bp W w7 := ⟨(Below.refl bp W).grown hg (Nat.le_of_lt h.lt) (fun k hk => (h.row.lt k hk).1), fun g cs fr hc => (hg.block g (fm.lt_blk hc) (fun e => row_ne h.row hc (by decide) e.symm)).trans hc, fun g cs fr hc => (hg.block g (fm.lt_blk hc) (fun e => row_ne h.row hc (by decide) e.symm)).trans hc, fun g cs fr _ hc => (hg.block g (fm.lt_blk hc) (fun e => row_ne h.row hc (by decide) e.symm)).trans hc⟩
  have hk2 := KP.set (o := 1) hb7 (by decide) (Nat.le_refl bp) v'
  have hk := hk1.trans hk2
  refine ⟨⟨by rw [fm.blk_set hb7]; rfl, h.now.kp hk, ?_, fun x hx => ?_⟩, hk⟩
  · rw [List.length_append, stF_app]
    exact ownsRow_setCell_other ho (a := ⟨bp, 1, none⟩) (row_ne ho hb7 (by decide)) _
  · rcases List.mem_append.1 hx with hx | hx
    · exact ⟨(h.mem x hx).1.kp hk, (h.mem x hx).2.kp hk⟩
    · have e : x = s := by simpa using hx
      subst e
      exact ⟨hm.1.kp hk, hm.2.kp hk⟩
set_option maxRecDepth 100000 in
set_option maxHeartbeats 4000000 in
theorem put_any (bp : Nat) (xs : List Fl) (st : List St) (vn vs : Value) (s : St) (w : World) (h : PS w bp xs st st.length vn vs) (hm : FB w s.va s.a ∧ FB w s.vb s.b) (hn : st.length ≤ 1000) :
    Calls Tryz.prog 32 #[.pointer (some ⟨bp, 0, none⟩), .agg #[s.va, s.vb]] w fun e w' => (∃ v, e = .returned v) ∧ (∃ vs', PS w' bp xs (st ++ [s]) (st.length + 1) vn vs') ∧ KP bp w w' := by
  obtain ⟨i0, hi, hz0, hz1, hz2⟩ := info_parts info46
  obtain ⟨ga, na, ca, hva⟩ : ∃ ga na ca, s.va = .slice ga na ca := by obtain ⟨p, c, h, -⟩ := hm.1.full; exact ⟨_, _, _, h⟩
  obtain ⟨gb, nb, cb, hvb⟩ : ∃ gb nb cb, s.vb = .slice gb nb cb := by obtain ⟨p, c, h, -⟩ := hm.2.full; exact ⟨_, _, _, h⟩
  obtain ⟨n, hN⟩ : ∃ n, st.length = n := ⟨_, rfl⟩
  obtain ⟨p, c, rfl, -⟩ := h.steps
  rw [hN] at h ⊢
  have hb0 : Below w.heap.size w (w.alloc (.cells #[s.va, s.vb] 63)) := (Below.refl _ _).alloc (Nat.le_refl _) _
  have hr0 := heap_alloc_new w (.cells #[s.va, s.vb] 63)
  have HW : Hid (PS (w.alloc (.cells #[s.va, s.vb] 63)) bp xs st n vn (.slice p n c) ∧ KP bp w (w.alloc (.cells #[s.va, s.vb] 63)) ∧ (w.alloc (.cells #[s.va, s.vb] 63)).heap[w.heap.size]? = some (.cells #[s.va, s.vb] 63 (0, 0)) ∧ FB (w.alloc (.cells #[s.va, s.vb] 63)) s.va s.a ∧ FB (w.alloc (.cells #[s.va, s.vb] 63)) s.vb s.b) := ⟨h.next hb0, KP.of hb0 (Nat.le_of_lt h.lt), hr0, hm.1.below hb0, hm.2.below hb0⟩
  have hn3 : (n : Int) ≤ 1000 := by omega
  have hnN : n ≤ 1000 := by omega
  have HN : Hid (st.length = n) := hN
  obtain ⟨bs, hbs⟩ : ∃ bs, w.heap.size = bs := ⟨_, rfl⟩
  rw [hva, hvb] at HW ⊢
  clear h hm hb0 hr0 hN
  go_enter Tryz.func32, Tryz.ntmps32
  go_upto_region 1 with fail
  rw [hbs] at HW
  clear hbs
  generalize w.alloc (.cells #[.slice ga na ca, .slice gb nb cb] 63) = W at *
  obtain ⟨c0, c1, c2⟩ := cells3 HW.out.1.blk
  go_cut [13] (fun s13 wx => s13 = .bool false ∧ wx = W.drew)
  case first =>
    go_region
    all_goals
      go_wp2_with fail
      go_meet
      case rel => exact ⟨by simp, rfl⟩
  case rest =>
  obtain ⟨rfl, rfl⟩ := hcut
  obtain ⟨b0, b1⟩ := cells2 HW.out.2.2.1
  obtain ⟨WA, hWA⟩ : ∃ WA, (W.alloc (.cells #[.slice ga na ca, .slice gb nb cb] 63)).drew.drew = WA := ⟨_, rfl⟩
  have hd : Below W.heap.size W (W.alloc (.cells #[.slice ga na ca, .slice gb nb cb] 63)).drew.drew := (((Below.refl _ _).alloc (Nat.le_refl _) _).drew).drew
  rw [hWA] at hd
  have HA : Hid (PS WA bp xs st n vn (.slice p n c) ∧ KP bp w WA ∧ FB WA (.slice ga na ca) s.a ∧ FB WA (.slice gb nb cb) s.b) := ⟨HW.out.1.next hd, HW.out.2.1.trans (KP.of hd (Nat.le_of_lt HW.out.1.lt)), HW.out.2.2.2.1.below hd, HW.out.2.2.2.2.below hd⟩
  have HO : Hid (WA.ownsRow bp 63 2 (.slice p n c) n (stF st) ∧ bp ≤ WA.heap.size) := ⟨by have := HA.out.1.row; rw [HN.out] at this; exact this, Nat.le_of_lt HA.out.1.lt⟩
  have HX : Hid ((W.alloc (.cells #[.slice ga na ca, .slice gb nb cb] 63)).drew.drew = WA) := hWA
  have H1 : Hid (∀ u ∈ [Value.slice ga na ca, Value.slice gb nb cb], u.oneCell' = true) := by intro u hu; simp at hu; rcases hu with rfl | rfl <;> rfl
  have hq1 : (W.alloc (.cells #[.slice ga na ca, .slice gb nb cb] 63)).cell? ⟨bp, 1, none⟩ = some (.slice p n c) := (((Below.refl W.heap.size W).alloc (Nat.le_refl _) _).cell (p := ⟨bp, 1, none⟩) HW.out.1.lt).trans c1
  clear hWA
  clear hd
  go_upto_region 3 with fail
  go_cut [35] (fun _ wx => ∃ v, PS wx bp xs (st ++ [s]) n vn v ∧ KP bp w wx)
  case first =>
    go_region_law ((refine step_append_lies _ (by rfl) _ _ 56 (by rfl) bp 63 i0 (.agg #[.slice none 0 0, .slice none 0 0]) 2 48 Tryz.underlying56 hi hz0 hz1 hz2 rfl (by decide) (.slice p n c) n (stF st) (by rfl) (by rw [HX.out]; exact HO.out.1) ⟨W.heap.size, 0, none⟩ 1 1 [.slice ga na ca, .slice gb nb cb] (by rfl) rfl (World.news_of_block (heap_alloc_new W _)) H1.out (by decide) (by unfold maxLen; omega) (by omega) (by rw [HX.out]; exact HO.out.2) _ rfl ?_; intro g cap w7 hown7 hgrow hat hlt7; rw [HX.out] at hgrow; have hb7 := (hgrow.block bp HA.out.1.lt (fun e => row_ne HA.out.1.row HA.out.1.blk (by decide) e.symm)).trans HA.out.1.blk; have HE : Hid (PS (w7.setCell ⟨bp, 1, none⟩ (.slice (some ⟨g, 0, none⟩) (n + 1) cap)) bp xs (st ++ [s]) n vn (.slice (some ⟨g, 0, none⟩) (n + 1) cap) ∧ KP bp WA (w7.setCell ⟨bp, 1, none⟩ (.slice (some ⟨g, 0, none⟩) (n + 1) cap))) := HA.out.1.put hgrow (by rw [HN.out, hva, hvb]; exact hown7) (by rw [hva, hvb]; exact HA.out.2.2); obtain ⟨y0, y1, y2⟩ := cells3 hb7; have z1 := froz hb7 1; clear hb7 hgrow hown7 hat hlt7))
    all_goals
      go_wp2_with fail
      go_meet
      case rel => exact ⟨_, HE.out.1, HA.out.2.1.trans HE.out.2⟩
  case rest =>
  obtain ⟨v, hp, hk⟩ := hcut
  clear c0 c1 c2 b0 b1
  obtain ⟨c0, c1, c2⟩ := cells3 hp.blk
  have z2 := froz hp.blk 2
  have HF : Hid (PS wc bp xs (st ++ [s]) n vn v ∧ KP bp w wc) := ⟨hp, hk⟩
  clear hp hk
  go_wp2_with fail
  go_end0
  obtain ⟨h4, h5⟩ := HF.out.1.setBack (n + 1)
  rw [show ((n + 1 : Nat) : Int) = (n : Int) + 1 from rfl] at h4 h5
  exact ⟨⟨_, rfl⟩, ⟨_, h4⟩, HF.out.2.trans h5⟩
/-- The steps that are done, in new memory, and a step behind them. -/
theorem PS.cut {W w7 : World} {bp : Nat} {xs : List Fl} {l : List St} {k : Nat} {vn u v' : Value} (hblk : W.heap[bp]? = some (.cells #[vn, u, .int .i64 k] 58 (0, 0))) (hnow : FB W vn xs) (hmem : ∀ x ∈ l, FB W x.va x.a ∧ FB W x.vb x.b) (hg : W.grownBy w7 none) (ho : w7.ownsRow W.heap.size 63 2 v' l.length (stF l)) :
    PS (w7.setCell ⟨bp, 1, none⟩ v') bp xs l k vn v' ∧ KP bp W (w7.setCell ⟨bp, 1, none⟩ v') := by
  have hlt : bp < W.heap.size := fm.lt_blk hblk
  have hbl : ∀ g, g < W.heap.size → w7.heap[g]? = W.heap[g]? := fun g h => hg.block g h (fun e => by cases e)
  have hb7 : w7.heap[bp]? = some (.cells #[vn, u, .int .i64 k] 58 (0, 0)) := (hbl bp hlt).trans hblk
  have hk1 : KP bp W w7 := ⟨(Below.refl bp W).grown hg (Nat.le_of_lt hlt) (fun k hk => by cases hk), fun g cs fr hc => (hbl g (fm.lt_blk hc)).trans hc, fun g cs fr hc => (hbl g (fm.lt_blk hc)).trans hc, fun g cs fr _ hc => (hbl g (fm.lt_blk hc)).trans hc⟩
  have hk2 := KP.set (o := 1) hb7 (by decide) (Nat.le_refl bp) v'
  have hkk := hk1.trans hk2
  refine ⟨⟨by rw [fm.blk_set hb7]; rfl, hnow.kp hkk, ?_, fun x hx => ⟨(hmem x hx).1.kp hkk, (hmem x hx).2.kp hkk⟩⟩, hkk⟩
  exact own_base (ownsRow_setCell_other ho (a := ⟨bp, 1, none⟩) (row_ne ho hb7 (by decide)) _) (Nat.le_of_lt hlt)
/-- What lies there once the list of steps is cut. -/
structure PC0 (w0 : World) (bp gs : Nat) (xs : List Fl) (st : List St) (k : Nat) (vn : Value) (s : St) (bs : Nat) (w : World) : Prop where
  blk : w.heap[bp]? = some (.cells #[vn, .slice (some ⟨gs, 0, none⟩) k k, .int .i64 k] 58 (0, 0))
  now : FB w vn xs
  mem : ∀ x ∈ st.take k ++ [s], FB w x.va x.a ∧ FB w x.vb x.b
  old : ∀ j u, (stF (st.take k))[j]? = some u → w.cell? ⟨gs, j, none⟩ = some u
  glt : gs < w.heap.size
  box : w.heap[bs]? = some (.cells #[s.va, s.vb] 63 (0, 0))
  kp : KP bp w0 w
theorem PC0.next {w0 : World} {bp gs : Nat} {xs : List Fl} {st : List St} {k : Nat} {vn : Value} {s : St} {bs : Nat} {w w' : World} (h : PC0 w0 bp gs xs st k vn s bs w) (hb : Below w.heap.size w w') : PC0 w0 bp gs xs st k vn s bs w' :=
  ⟨(hb.block _ (fm.lt_blk h.blk)).trans h.blk, h.now.below hb, fun x hx => ⟨(h.mem x hx).1.below hb, (h.mem x hx).2.below hb⟩, fun j u hu => (hb.cell (p := ⟨gs, j, none⟩) h.glt).trans (h.old j u hu), Nat.lt_of_lt_of_le h.glt hb.size, (hb.block _ (fm.lt_blk h.box)).trans h.box, h.kp.trans (KP.of hb (Nat.le_of_lt (fm.lt_blk h.blk)))⟩
theorem PC0.of {W : World} {bp gs : Nat} {xs : List Fl} {st : List St} {k n c : Nat} {vn : Value} {s : St} {bs : Nat} {w0 : World} (h : PS W bp xs st k vn (.slice (some ⟨gs, 0, none⟩) n c)) (hm : FB W s.va s.a ∧ FB W s.vb s.b) (hbx : W.heap[bs]? = some (.cells #[s.va, s.vb] 63 (0, 0))) (hkp : KP bp w0 W) (hne : bs ≠ bp) :
    PC0 w0 bp gs xs st k vn s bs (W.setCell ⟨bp, 1, none⟩ (.slice (some ⟨gs, 0, none⟩) k k)) := by
  have hk2 := KP.set (o := 1) h.blk (by decide) (Nat.le_refl bp) (.slice (some ⟨gs, 0, none⟩) k k)
  rcases h.row.2 with ⟨e, -⟩ | ⟨g, cap, cur, e, hbg, hg, hc, -, hsz, htk⟩
  · cases e
  injection e with e _ _
  injection e with e
  injection e with e
  subst e
  have hgb : gs ≠ bp := fun e => by
    rw [e, h.blk] at hg
    injection hg with hg
    injection hg with _ q
    exact absurd q (by decide)
  have hlt := fm.lt_blk hg
  refine ⟨by rw [fm.blk_set h.blk]; rfl, h.now.kp hk2, fun x hx => ?_, fun j u hu => ?_, by rw [World.size_setCell]; exact hlt, (Below.heap_setCell _ _ _ _ hne).trans hbx, hkp.trans hk2⟩
  · rcases List.mem_append.1 hx with hx | hx
    · have hx := List.mem_of_mem_take hx
      exact ⟨(h.mem x hx).1.kp hk2, (h.mem x hx).2.kp hk2⟩
    · have e : x = s := by simpa using hx
      subst e
      exact ⟨hm.1.kp hk2, hm.2.kp hk2⟩
  · have hg' : (W.setCell ⟨bp, 1, none⟩ (.slice (some ⟨gs, 0, none⟩) k k)).heap[gs]? = some (.cells cur 63 (0, 0)) := (Below.heap_setCell _ _ _ _ hgb).trans hg
    rw [fm.cell_blk hg']
    have hst : stF st = stF (st.take k) ++ stF (st.drop k) := by rw [← stF_app, List.take_append_drop]
    have hj : j < (stF (st.take k)).length := (List.getElem?_eq_some_iff.1 hu).1
    have h1 : (stF st)[j]? = some u := by rw [hst, List.getElem?_append_left hj]; exact hu
    rw [← htk, List.getElem?_take] at h1
    split at h1
    · simpa using h1
    · cases h1
set_option maxRecDepth 100000 in
set_option maxHeartbeats 4000000 in
theorem put_cut (bp : Nat) (xs : List Fl) (st : List St) (k : Nat) (hk : k < st.length) (vn vs : Value) (s : St) (w : World) (h : PS w bp xs st k vn vs) (hm : FB w s.va s.a ∧ FB w s.vb s.b) (hn : st.length ≤ 1000) :
    Calls Tryz.prog 32 #[.pointer (some ⟨bp, 0, none⟩), .agg #[s.va, s.vb]] w fun e w' => (∃ v, e = .returned v) ∧ (∃ vs', PS w' bp xs (st.take k ++ [s]) (k + 1) vn vs') ∧ KP bp w w' := by
  obtain ⟨i0, hi, hz0, hz1, hz2⟩ := info_parts info46
  obtain ⟨ga, na, ca, hva⟩ : ∃ ga na ca, s.va = .slice ga na ca := by obtain ⟨p, c, h, -⟩ := hm.1.full; exact ⟨_, _, _, h⟩
  obtain ⟨gb, nb, cb, hvb⟩ : ∃ gb nb cb, s.vb = .slice gb nb cb := by obtain ⟨p, c, h, -⟩ := hm.2.full; exact ⟨_, _, _, h⟩
  obtain ⟨n, hN⟩ : ∃ n, st.length = n := ⟨_, rfl⟩
  obtain ⟨gs, c, rfl, hnc⟩ : ∃ gs c, vs = .slice (some ⟨gs, 0, none⟩) n c ∧ n ≤ c := by
    rcases h.row.2 with ⟨-, h0⟩ | ⟨g, cap, cur, e, -, -, hc, -⟩
    · omega
    · exact ⟨g, cap, by rw [e, hN], by omega⟩
  have hb0 : Below w.heap.size w (w.alloc (.cells #[s.va, s.vb] 63)) := (Below.refl _ _).alloc (Nat.le_refl _) _
  have hr0 := heap_alloc_new w (.cells #[s.va, s.vb] 63)
  have HW : Hid (PS (w.alloc (.cells #[s.va, s.vb] 63)) bp xs st k vn (.slice (some ⟨gs, 0, none⟩) n c) ∧ KP bp w (w.alloc (.cells #[s.va, s.vb] 63)) ∧ (w.alloc (.cells #[s.va, s.vb] 63)).heap[w.heap.size]? = some (.cells #[s.va, s.vb] 63 (0, 0)) ∧ (FB (w.alloc (.cells #[s.va, s.vb] 63)) s.va s.a ∧ FB (w.alloc (.cells #[s.va, s.vb] 63)) s.vb s.b) ∧ w.heap.size ≠ bp) := ⟨h.next hb0, KP.of hb0 (Nat.le_of_lt h.lt), hr0, ⟨hm.1.below hb0, hm.2.below hb0⟩, by have := h.lt; omega⟩
  have hn3 : (n : Int) ≤ 1000 := by omega
  have hkn : (k : Int) < (n : Int) := by omega
  have hk0 : (0 : Int) ≤ (k : Int) := by omega
  have hnc' : (n : Int) ≤ (c : Int) := by omega
  have hkc : (k : Int) ≤ (c : Int) := by omega
  have HN : Hid (st.length = n ∧ k ≤ st.length) := ⟨hN, by omega⟩
  have hkN : k ≤ 1000 := by omega
  obtain ⟨bs, hbs⟩ : ∃ bs, w.heap.size = bs := ⟨_, rfl⟩
  rw [hva, hvb]
  rw [hva, hvb, hbs] at HW
  have HVV : Hid (s.va = .slice ga na ca ∧ s.vb = .slice gb nb cb) := ⟨hva, hvb⟩
  clear h hm hb0 hr0 hN hn hk hva hvb
  go_enter Tryz.func32, Tryz.ntmps32
  go_upto_region 1 with fail
  clear hbs
  generalize w.alloc (.cells #[.slice ga na ca, .slice gb nb cb] 63) = W at *
  obtain ⟨c0, c1, c2⟩ := cells3 HW.out.1.blk
  go_cut [13] (fun s13 wx => s13 = .bool true ∧ wx = W.drew)
  case first =>
    go_region
    all_goals
      go_wp2_with fail
      go_meet
      case rel => exact ⟨by simp, rfl⟩
  case rest =>
  obtain ⟨rfl, rfl⟩ := hcut
  have z1 := froz HW.out.1.blk 1
  go_upto_if 13 with fail
  go_cut [35] (fun _ wx => PC0 w bp gs xs st k vn s bs wx)
  case first =>
    go_wp2_with fail
    go_region
    all_goals
      go_wp2_with fail
      go_meet
      case rel => exact (PC0.of (s := s) HW.out.1 (by rw [HVV.out.1, HVV.out.2]; exact HW.out.2.2.2.1) (by rw [HVV.out.1, HVV.out.2]; exact HW.out.2.2.1) HW.out.2.1 HW.out.2.2.2.2).next ((Below.refl _ _).drew.drew)
  case rest =>
  clear c0 c1 c2 z1 HW
  obtain ⟨b0, b1⟩ := cells2 hcut.box
  rw [HVV.out.1] at b0
  rw [HVV.out.2] at b1
  obtain ⟨c0, c1, c2⟩ := cells3 hcut.blk
  have HC : Hid (PC0 w bp gs xs st k vn s bs wc) := hcut
  obtain ⟨WA, hWA⟩ : ∃ WA, (wc.alloc (.cells #[.slice ga na ca, .slice gb nb cb] 63)).drew = WA := ⟨_, rfl⟩
  have hd : Below wc.heap.size wc (wc.alloc (.cells #[.slice ga na ca, .slice gb nb cb] 63)).drew := ((Below.refl _ _).alloc (Nat.le_refl _) _).drew
  rw [hWA] at hd
  have HA : Hid (PC0 w bp gs xs st k vn s bs WA) := HC.out.next hd
  have HX : Hid ((wc.alloc (.cells #[.slice ga na ca, .slice gb nb cb] 63)).drew = WA) := hWA
  have HOld : Hid (∀ b, some (⟨gs, 0, none⟩ : Addr) = some b → ∀ j u, (stF (st.take k))[j]? = some u → WA.cell? (b.add j) = some u) := fun b e j u hu => by
    injection e with e
    subst e
    rw [show (⟨gs, 0, none⟩ : Addr).add j = ⟨gs, j, none⟩ by unfold Addr.add; by_cases h : j = 0 <;> simp [h]]
    exact HA.out.old j u hu
  have H1 : Hid (∀ u ∈ [Value.slice ga na ca, Value.slice gb nb cb], u.oneCell' = true) := by intro u hu; simp at hu; rcases hu with rfl | rfl <;> rfl
  have HLo : Hid ((stF (st.take k)).length = k * 2) := by unfold Hid; rw [stF_len, List.length_take, Nat.min_eq_left HN.out.2]
  have hq1 : (wc.alloc (.cells #[.slice ga na ca, .slice gb nb cb] 63)).cell? ⟨bp, 1, none⟩ = some (.slice (some ⟨gs, 0, none⟩) k k) := (((Below.refl wc.heap.size wc).alloc (Nat.le_refl _) _).cell (p := ⟨bp, 1, none⟩) (fm.lt_blk HC.out.blk)).trans c1
  clear hWA hd hcut
  go_upto_region 3 with fail
  go_cut [35] (fun _ wx => ∃ v, PS wx bp xs (st.take k ++ [s]) k vn v ∧ KP bp w wx)
  case first =>
    go_region_law ((refine step_append_grows (by rfl) _ _ 56 (by rfl) 63 i0 (.agg #[.slice none 0 0, .slice none 0 0]) 2 48 Tryz.underlying56 hi hz0 hz1 hz2 rfl (by decide) (some ⟨gs, 0, none⟩) k k (stF (st.take k)) (by rfl) (fun e => by cases e) HLo.out (by rw [HX.out]; exact HOld.out) ⟨wc.heap.size, 0, none⟩ 1 1 [.slice ga na ca, .slice gb nb cb] (by rfl) rfl (World.news_of_block (heap_alloc_new wc _)) H1.out (by omega) (by unfold maxLen; omega) (by omega) ?_; intro v7 w7 hown7 hgrow; rw [HX.out] at hgrow hown7; obtain ⟨g7, cap7, rfl, -, -⟩ := hown7.form (by omega); have hb7 := (hgrow.block bp (fm.lt_blk HA.out.blk) (fun e => by cases e)).trans HA.out.blk; have HE : Hid (PS (w7.setCell ⟨bp, 1, none⟩ (.slice (some ⟨g7, 0, none⟩) (k + 1) cap7)) bp xs (st.take k ++ [s]) k vn (.slice (some ⟨g7, 0, none⟩) (k + 1) cap7) ∧ KP bp WA (w7.setCell ⟨bp, 1, none⟩ (.slice (some ⟨g7, 0, none⟩) (k + 1) cap7))) := PS.cut HA.out.blk HA.out.now HA.out.mem hgrow (by rw [List.length_append, List.length_take, Nat.min_eq_left HN.out.2, stF_app]; show w7.ownsRow _ 63 2 _ (k + 1) (stF (st.take k) ++ [s.va, s.vb]); rw [HVV.out.1, HVV.out.2]; exact hown7); obtain ⟨y0, y1, y2⟩ := cells3 hb7; have z1 := froz hb7 1; clear hb7 hgrow hown7))
    all_goals
      go_wp2_with fail
      go_meet
      case rel => exact ⟨_, HE.out.1, HA.out.kp.trans HE.out.2⟩
  case rest =>
  obtain ⟨v, hp, hk⟩ := hcut
  clear c0 c1 c2 b0 b1
  obtain ⟨c0, c1, c2⟩ := cells3 hp.blk
  have z2 := froz hp.blk 2
  have HF : Hid (PS wc bp xs (st.take k ++ [s]) k vn v ∧ KP bp w wc) := ⟨hp, hk⟩
  clear hp hk
  go_wp2_with fail
  go_end0
  obtain ⟨h4, h5⟩ := HF.out.1.setBack (k + 1)
  rw [show ((k + 1 : Nat) : Int) = (k : Int) + 1 from rfl] at h4 h5
  exact ⟨⟨_, rfl⟩, ⟨_, h4⟩, HF.out.2.trans h5⟩
theorem put_gen (bp : Nat) (xs : List Fl) (st : List St) (k : Nat) (hk : k ≤ st.length) (vn vs : Value) (s : St) (w : World) (h : PS w bp xs st k vn vs) (hm : FB w s.va s.a ∧ FB w s.vb s.b) (hn : st.length ≤ 1000) :
    Calls Tryz.prog 32 #[.pointer (some ⟨bp, 0, none⟩), .agg #[s.va, s.vb]] w fun e w' => (∃ v, e = .returned v) ∧ (∃ vs', PS w' bp xs (st.take k ++ [s]) (k + 1) vn vs') ∧ KP bp w w' := by
  by_cases hkk : k = st.length
  · subst hkk
    rw [List.take_length]
    exact put_any bp xs st vn vs s w h hm hn
  · exact put_cut bp xs st k (by omega) vn vs s w h hm hn
end Go.Proofs.YtcekgefkimbfaaaGreatDoor.ps
