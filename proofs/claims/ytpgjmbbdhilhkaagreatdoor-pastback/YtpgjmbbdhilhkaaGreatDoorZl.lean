/- Package past: a step is laid behind those that are done. Conditions: as each theorem says. -/
import Derived.Test.YtpgjmbbdhilhkaaGreatDoorZj
import Derived.Deep.RegionLaw
namespace Go.Proofs.YtpgjmbbdhilhkaaGreatDoor.ps
open Go.RowKit
open adr (C)
theorem info46 : (Tryz.prog.info? 46).map (fun i => (i.zero, i.size, i.bytes)) = some (some (.agg #[.slice none 0 0, .slice none 0 0]), 2, 48) := by kernel_rfl
theorem PS.put {W w7 : World} {bp : Nat} {xs : List Fl} {st : List St} {k : Nat} {vn vs v' : Value} {s : St} (h : PS W bp xs st k vn vs) (hg : W.grownBy w7 vs.ownBlock) (ho : w7.ownsRow bp 46 2 v' (st.length + 1) (stF st ++ [s.va, s.vb])) (hm : FB W s.va [s.a] ∧ FB W s.vb [s.b]) :
    PS (w7.setCell ⟨bp, 1, none⟩ v') bp xs (st ++ [s]) k vn v' ∧ KP bp W (w7.setCell ⟨bp, 1, none⟩ v') := by
  have hb7 : w7.heap[bp]? = some (.cells #[vn, vs, .int .i64 k] 43 (0, 0)) := (hg.block bp h.lt (fun e => row_ne h.row h.blk (by decide) e.symm)).trans h.blk
  have hk1 : KP bp W w7 := ⟨(Below.refl bp W).grown hg (Nat.le_of_lt h.lt) (fun k hk => (h.row.lt k hk).1), fun g cs fr hc => (hg.block g (fm.lt_blk hc) (fun e => row_ne h.row hc (by decide) e.symm)).trans hc⟩
  have hk2 := KP.set (o := 1) hb7 (by decide) (Nat.le_refl bp) v'
  have hk := hk1.trans hk2
  refine ⟨⟨by rw [fm.blk_set hb7]; rfl, h.now.kp hk, ?_, fun x hx => ?_⟩, hk⟩
  · rw [List.length_append, stF_app]
    exact ownsRow_setCell_other ho (a := ⟨bp, 1, none⟩) (row_ne ho hb7 (by decide)) _
  · rcases List.mem_append.1 hx with hx | hx
    · exact ⟨(h.mem x hx).1.kp hk, (h.mem x hx).2.kp hk⟩
    · have e : x = s := by simpa using hx
      subst e
      exact ⟨hm.1.kp hk, hm.2.kp hk⟩
set_option maxRecDepth 100000 in
set_option maxHeartbeats 4000000 in
theorem put_any (bp : Nat) (xs : List Fl) (st : List St) (vn vs : Value) (s : St) (w : World) (h : PS w bp xs st st.length vn vs) (hm : FB w s.va [s.a] ∧ FB w s.vb [s.b]) (hn : st.length ≤ 1000) :
    Calls Tryz.prog 20 #[.pointer (some ⟨bp, 0, none⟩), .agg #[s.va, s.vb]] w fun e w' => (∃ v, e = .returned v) ∧ (∃ vs', PS w' bp xs (st ++ [s]) (st.length + 1) vn vs') ∧ KP bp w w' := by
  obtain ⟨i0, hi, hz0, hz1, hz2⟩ := info_parts info46
  obtain ⟨ga, ca, hva, -⟩ := hm.1.one
  obtain ⟨gb, cb, hvb, -⟩ := hm.2.one
  obtain ⟨n, hN⟩ : ∃ n, st.length = n := ⟨_, rfl⟩
  obtain ⟨p, c, rfl, -⟩ := h.steps
  rw [hN] at h ⊢
  have hb0 : Below w.heap.size w (w.alloc (.cells #[s.va, s.vb] 46)) := (Below.refl _ _).alloc (Nat.le_refl _) _
  have hr0 := heap_alloc_new w (.cells #[s.va, s.vb] 46)
  have HW : Hid (PS (w.alloc (.cells #[s.va, s.vb] 46)) bp xs st n vn (.slice p n c) ∧ KP bp w (w.alloc (.cells #[s.va, s.vb] 46)) ∧ (w.alloc (.cells #[s.va, s.vb] 46)).heap[w.heap.size]? = some (.cells #[s.va, s.vb] 46 (0, 0)) ∧ FB (w.alloc (.cells #[s.va, s.vb] 46)) s.va [s.a] ∧ FB (w.alloc (.cells #[s.va, s.vb] 46)) s.vb [s.b]) := ⟨h.next hb0, KP.of hb0 (Nat.le_of_lt h.lt), hr0, hm.1.below hb0, hm.2.below hb0⟩
  have hn3 : (n : Int) ≤ 1000 := by omega
  have hnN : n ≤ 1000 := by omega
  have HN : Hid (st.length = n) := hN
  obtain ⟨bs, hbs⟩ : ∃ bs, w.heap.size = bs := ⟨_, rfl⟩
  rw [hva, hvb] at HW ⊢
  clear h hm hb0 hr0 hN
  go_enter Tryz.func20, Tryz.ntmps20
  go_upto_region 1 with fail
  rw [hbs] at HW
  clear hbs
  generalize w.alloc (.cells #[.slice (some ⟨ga, 0, none⟩) 1 ca, .slice (some ⟨gb, 0, none⟩) 1 cb] 46) = W at *
  obtain ⟨c0, c1, c2⟩ := cells3 HW.out.1.blk
  go_cut [13] (fun s13 wx => s13 = .bool false ∧ wx = W.drew)
  case first =>
    go_region
    all_goals
      go_wp2_with fail
      go_meet
      case rel => exact ⟨by simp, rfl⟩
  case rest =>
  obtain ⟨rfl, rfl⟩ := hcut
  obtain ⟨b0, b1⟩ := cells2 HW.out.2.2.1
  obtain ⟨WA, hWA⟩ : ∃ WA, (W.alloc (.cells #[.slice (some ⟨ga, 0, none⟩) 1 ca, .slice (some ⟨gb, 0, none⟩) 1 cb] 46)).drew.drew = WA := ⟨_, rfl⟩
  have hd : Below W.heap.size W (W.alloc (.cells #[.slice (some ⟨ga, 0, none⟩) 1 ca, .slice (some ⟨gb, 0, none⟩) 1 cb] 46)).drew.drew := (((Below.refl _ _).alloc (Nat.le_refl _) _).drew).drew
  rw [hWA] at hd
  have HA : Hid (PS WA bp xs st n vn (.slice p n c) ∧ KP bp w WA ∧ FB WA (.slice (some ⟨ga, 0, none⟩) 1 ca) [s.a] ∧ FB WA (.slice (some ⟨gb, 0, none⟩) 1 cb) [s.b]) := ⟨HW.out.1.next hd, HW.out.2.1.trans (KP.of hd (Nat.le_of_lt HW.out.1.lt)), HW.out.2.2.2.1.below hd, HW.out.2.2.2.2.below hd⟩
  have HO : Hid (WA.ownsRow bp 46 2 (.slice p n c) n (stF st) ∧ bp ≤ WA.heap.size) := ⟨by have := HA.out.1.row; rw [HN.out] at this; exact this, Nat.le_of_lt HA.out.1.lt⟩
  have HX : Hid ((W.alloc (.cells #[.slice (some ⟨ga, 0, none⟩) 1 ca, .slice (some ⟨gb, 0, none⟩) 1 cb] 46)).drew.drew = WA) := hWA
  have H1 : Hid (∀ u ∈ [Value.slice (some ⟨ga, 0, none⟩) 1 ca, Value.slice (some ⟨gb, 0, none⟩) 1 cb], u.oneCell' = true) := by intro u hu; simp at hu; rcases hu with rfl | rfl <;> rfl
  have hq1 : (W.alloc (.cells #[.slice (some ⟨ga, 0, none⟩) 1 ca, .slice (some ⟨gb, 0, none⟩) 1 cb] 46)).cell? ⟨bp, 1, none⟩ = some (.slice p n c) := (((Below.refl W.heap.size W).alloc (Nat.le_refl _) _).cell (p := ⟨bp, 1, none⟩) HW.out.1.lt).trans c1
  clear hWA
  clear hd
  go_upto_region 3 with fail
  go_cut [35] (fun _ wx => ∃ v, PS wx bp xs (st ++ [s]) n vn v ∧ KP bp w wx)
  case first =>
    go_region_law ((refine step_append_lies _ (by rfl) _ _ 41 (by rfl) bp 46 i0 (.agg #[.slice none 0 0, .slice none 0 0]) 2 48 Tryz.underlying41 hi hz0 hz1 hz2 rfl (by decide) (.slice p n c) n (stF st) (by rfl) (by rw [HX.out]; exact HO.out.1) ⟨W.heap.size, 0, none⟩ 1 1 [.slice (some ⟨ga, 0, none⟩) 1 ca, .slice (some ⟨gb, 0, none⟩) 1 cb] (by rfl) rfl (World.news_of_block (heap_alloc_new W _)) H1.out (by decide) (by unfold maxLen; omega) (by omega) (by rw [HX.out]; exact HO.out.2) _ rfl ?_; intro g cap w7 hown7 hgrow hat hlt7; rw [HX.out] at hgrow; have hb7 := (hgrow.block bp HA.out.1.lt (fun e => row_ne HA.out.1.row HA.out.1.blk (by decide) e.symm)).trans HA.out.1.blk; have HE : Hid (PS (w7.setCell ⟨bp, 1, none⟩ (.slice (some ⟨g, 0, none⟩) (n + 1) cap)) bp xs (st ++ [s]) n vn (.slice (some ⟨g, 0, none⟩) (n + 1) cap) ∧ KP bp WA (w7.setCell ⟨bp, 1, none⟩ (.slice (some ⟨g, 0, none⟩) (n + 1) cap))) := HA.out.1.put hgrow (by rw [HN.out, hva, hvb]; exact hown7) (by rw [hva, hvb]; exact HA.out.2.2); obtain ⟨y0, y1, y2⟩ := cells3 hb7; have z1 := froz hb7 1; clear hb7 hgrow hown7 hat hlt7))
    all_goals
      go_wp2_with fail
      go_meet
      case rel => exact ⟨_, HE.out.1, HA.out.2.1.trans HE.out.2⟩
  case rest =>
  obtain ⟨v, hp, hk⟩ := hcut
  clear c0 c1 c2 b0 b1
  obtain ⟨c0, c1, c2⟩ := cells3 hp.blk
  have z2 := froz hp.blk 2
  have HF : Hid (PS wc bp xs (st ++ [s]) n vn v ∧ KP bp w wc) := ⟨hp, hk⟩
  clear hp hk
  go_wp2_with fail
  go_end0
  obtain ⟨h4, h5⟩ := HF.out.1.setBack (n + 1)
  rw [show ((n + 1 : Nat) : Int) = (n : Int) + 1 from rfl] at h4 h5
  exact ⟨⟨_, rfl⟩, ⟨_, h4⟩, HF.out.2.trans h5⟩
end Go.Proofs.YtpgjmbbdhilhkaaGreatDoor.ps
