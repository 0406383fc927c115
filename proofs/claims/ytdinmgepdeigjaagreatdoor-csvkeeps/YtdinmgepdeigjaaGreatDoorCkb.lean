
/- csv.filled and csv.Sheet over a sheet's grid: walked. Conditions: as each theorem says. -/
import Derived.Test.YtdinmgepdeigjaaGreatDoorCka
namespace Go.Proofs.YtdinmgepdeigjaaGreatDoor.fw
open Go.RowKit Go.Sort
/-- What is known of a sheet and how wide and high it is. -/
structure SG (xs : List ps.Fl) (H W : Nat) : Prop where
  srt : ps.Srt xs
  len : xs.length ≤ 200
  cell : ∀ x ∈ xs, (1 ≤ x.c ∧ x.c ≤ (W : Int)) ∧ (1 ≤ x.r ∧ x.r ≤ (H : Int)) ∧ x.s.size ≠ 0
  hH : H ≤ 99
  hW : W ≤ 26
theorem grid_len (xs : List ps.Fl) (H W : Nat) : (grid xs H W).length = H := by unfold grid; rw [List.length_map, List.length_range]
theorem emptyL {s : ByteArray} (h : s.toList.isEmpty = true) : s = nul := by
  have : s.toList = [] := by simpa using h
  rw [← txt_list s, this]
  rfl
set_option maxRecDepth 1000000 in
set_option maxHeartbeats 8000000 in
theorem filled_any (xs : List ps.Fl) (H W : Nat) (p : Option Addr) (c : Nat) (w : World) (hg : RM w p (grid xs H W)) (hS : SG xs H W) :
    Calls Tryz.prog 10 #[.slice p H c] w fun e w' => ∃ v, e = .returned v ∧ Hid (RV fL w v xs w') := by
  have HG : Hid (RM w p (grid xs H W)) := hg
  have HS : Hid (SG xs H W) := hS
  have hH9 : (H : Int) ≤ 99 := by have := hS.hH; omega
  have hW9 : (W : Int) ≤ 26 := by have := hS.hW; omega
  clear hg hS
  go_enter Tryz.func10, Tryz.ntmps10
  go_upto_block 0 with fail
  go_cut [3] (fun s3 wx => Hid (RV fL w s3 xs wx))
  case first =>
    go_wp2_with fail
    go_loopw [3, 9] (fun s3 s9 wr => ∃ i k : Nat, s9 = .int .i64 (i : Int) ∧ i ≤ H ∧ Hid (PF xs k (i : Int) 0 ∧ RV fL w s3 (xs.take k) wr)) (fun _ s9 _ => H - (intOf s9).toNat)
    case atStart => exact ⟨0, 0, rfl, Nat.zero_le _, PF.start (fun x hx => ⟨(HS.out.cell x hx).1.1, (HS.out.cell x hx).2.1.1⟩), RV.nil fL w⟩
    case round =>
      obtain ⟨i, k, rfl, hi, HP⟩ := hrel
      have hi0 : (0 : Int) ≤ (i : Int) := by omega
      by_cases hlt : i < H
      · have hlt' : (i : Int) < (H : Int) := by omega
        have hi9 : (i : Int) ≤ 98 := by omega
        obtain ⟨g, o, q, kk, rfl, c1, s1⟩ := (HG.out.next HP.out.2.below).at (grid_at hlt)
        have HC1 : Hid (∀ wx, Bw w wx → wx.cell? ⟨g, o + i, none⟩ = some (.slice q W kk) ∧ SM wx q ((List.range W).map fun j => gt xs i j)) := fun wx hb => by
          obtain ⟨g2, o2, q2, k2, e1, e2, e3⟩ := HG.out.at (grid_at (xs := xs) (W := W) hlt)
          injection e1 with e1
          injection e1 with e4 e5
          subst e4 e5
          have e6 : wr.cell? ⟨g, o + i, none⟩ = some (.slice q2 ((List.range W).map fun j => gt xs i j).length k2) := by rw [HP.out.2.below.cell (p := ⟨g, _, none⟩) (World.block_lt_of_cell? w _ e2)]; exact e2
          have e7 := c1.symm.trans e6
          injection e7 with e7
          injection e7 with e8 e9 e10
          subst e8 e10
          have hl : ((List.range W).map fun j => gt xs i j).length = W := by rw [List.length_map, List.length_range]
          rw [hl] at e2
          exact ⟨by rw [hb.cell (p := ⟨g, _, none⟩) (World.block_lt_of_cell? w _ e2)]; exact e2, e3.next hb⟩
        clear c1 s1
        obtain ⟨c1, -⟩ := HC1.out wr HP.out.2.below
        go_upto_block 2 with fail
        clear c1
        obtain ⟨w9, hw9⟩ : ∃ x, x = wr := ⟨_, rfl⟩
        subst hw9
        go_wp2_with fail
        go_loopw [3, 17] (fun s3 s17 wr => ∃ j k : Nat, s17 = .int .i64 (j : Int) ∧ j ≤ W ∧ Hid (PF xs k (i : Int) (j : Int) ∧ RV fL w s3 (xs.take k) wr)) (fun _ s17 _ => W - (intOf s17).toNat)
        case atStart => exact ⟨0, k, rfl, Nat.zero_le _, HP⟩
        case round =>
          obtain ⟨j, k, rfl, hj, HQ⟩ := hrel
          have hj0 : (0 : Int) ≤ (j : Int) := by omega
          by_cases hjl : j < W
          · have hjl' : (j : Int) < (W : Int) := by omega
            have hj9 : (j : Int) ≤ 25 := by omega
            obtain ⟨c1, s1⟩ := HC1.out wr HQ.out.2.below
            obtain ⟨gq, oq, rfl, x1⟩ := s1.at (grid_cell (xs := xs) (i := i) hjl)
            clear s1
            obtain ⟨t, ht⟩ : ∃ t, gt xs i j = t := ⟨_, rfl⟩
            have HT : Hid (gt xs i j = t) := ht
            rw [ht] at x1
            clear ht
            by_cases hem : t.toList.isEmpty = true
            · have HN : Hid (PF xs k (i : Int) ((j + 1 : Nat) : Int) ∧ RV fL w u3 (xs.take k) wr) := ⟨HQ.out.1.skip (gt_none (fun x hx => (HS.out.cell x hx).2.2) (by rw [HT.out]; exact emptyL hem)), HQ.out.2⟩
              clear HQ
              go_wp2_with fail
              exact ⟨⟨j + 1, k, rfl, hjl, HN⟩, by simp [intOf]; omega⟩
            · have hem' : t.toList.isEmpty = false := Bool.eq_false_iff.2 hem
              have HX : Hid (xs[k]? = some ⟨(j : Int) + 1, (i : Int) + 1, t⟩ ∧ PF xs (k + 1) (i : Int) ((j + 1 : Nat) : Int)) := by
                obtain ⟨m, x, h1, h2, h3, h4⟩ := gt_some (xs := xs) (i := i) (j := j) (fun e => hem (by rw [← HT.out, e]; decide +kernel))
                obtain ⟨rfl, h5⟩ := HQ.out.1.hit HS.out.srt h1 h2 h3
                rw [HT.out] at h4
                obtain ⟨xc, xr, xt⟩ := x
                dsimp only at h2 h3 h4
                subst h2 h3 h4
                exact ⟨h1, h5⟩
              clear hem
              have hkl : k < 200 := by have := (List.getElem?_eq_some_iff.1 HX.out.1).1; have := HS.out.len; omega
              have htl : (xs.take k).length = k := by have := (List.getElem?_eq_some_iff.1 HX.out.1).1; rw [List.length_take]; omega
              obtain ⟨p3, k3, e3, -⟩ := HQ.out.2.form
              subst e3
              obtain ⟨g2, c2, w3, hr, hR⟩ := HQ.out.2.fill (by rw [htl]; omega) ((j : Int) + 1) ((i : Int) + 1) t
              have e9 : xs.take k ++ [⟨(j : Int) + 1, (i : Int) + 1, t⟩] = xs.take (k + 1) := by rw [List.take_add_one, HX.out.1]; rfl
              rw [e9] at hR
              rw [htl] at hr hR
              rw [htl]
              have HRR : Hid ((Builtin.append_ #[22, 22] 22 #[.slice p3 k k3, .slice (some ⟨wr.heap.size, 0, none⟩) 1 1]).run Tryz.prog (wr.alloc (.cells #[.int .i64 ((j : Int) + 1), .int .i64 ((i : Int) + 1), .string t] 38)) = .ok (.slice (some ⟨g2, 0, none⟩) (k + 1) c2) w3) := hr
              have HN : Hid (PF xs (k + 1) (i : Int) ((j + 1 : Nat) : Int) ∧ RV fL w (.slice (some ⟨g2, 0, none⟩) (k + 1) c2) (xs.take (k + 1)) w3) := ⟨HX.out.2, hR⟩
              have hk9 : (k : Int) < 200 := by omega
              clear hr hR HQ htl e9 HX
              go_wp2_with (at_builtin; refine wpList_append_eq rfl _ _ 22 22 rfl _ _ _ _ rfl rfl HRR.out ?_)
              exact ⟨⟨j + 1, k + 1, rfl, hjl, HN⟩, by simp [intOf]; omega⟩
          · have hjl' : ¬ (j : Int) < (W : Int) := by omega
            obtain rfl : j = W := by omega
            have HN : Hid (PF xs k ((i + 1 : Nat) : Int) 0 ∧ RV fL w u3 (xs.take k) wr) := ⟨HQ.out.1.line (fun x hx => (HS.out.cell x hx).1), HQ.out.2⟩
            clear HQ
            go_wp2_with fail
            exact ⟨⟨i + 1, k, rfl, hlt, HN⟩, by simp [intOf]; omega⟩
      · have hlt' : ¬ (i : Int) < (H : Int) := by omega
        have HR : Hid (RV fL w u3 xs wr) := by
          have e : i = H := by omega
          rw [e] at HP
          have hk := HP.out.1.done (fun x hx => (HS.out.cell x hx).2.1.2)
          have := HP.out.2
          rw [hk, List.take_length] at this
          exact this
        clear HP
        go_wp2_with fail
        go_meet
        case rel => exact HR
  case rest =>
  have HR := hcut
  clear hcut
  apply_assumption
  go_wp2_with fail
  go_ret
  exact ⟨_, rfl, HR⟩
set_option maxRecDepth 1000000 in
set_option maxHeartbeats 8000000 in
theorem sheet_any (xs : List ps.Fl) (H W : Nat) (p : Option Addr) (c : Nat) (w : World) (hg : RM w p (grid xs H W)) (hS : SG xs H W) (hT : ps.Told xs 0) (hE : ps.EnvP w) :
    Calls Tryz.prog 6 #[.slice p H c] w fun e w' => ∃ p c, e = .returned (.tuple #[.slice p xs.length c, .nilIface]) ∧ Hid (ps.FM w' p xs ∧ Bw w w') := by
  have HG : Hid (RM w p (grid xs H W)) := hg
  have HS : Hid (SG xs H W) := hS
  have HE : Hid (ps.EnvP w) := hE
  have HT : Hid (ps.Told xs 0) := hT
  have HF : Hid (Calls Tryz.prog 10 #[.slice p H c] w fun e w' => ∃ v, e = .returned v ∧ Hid (RV fL w v xs w')) := filled_any xs H W p c w hg hS
  have hH9 : (H : Int) ≤ 99 := by have := hS.hH; omega
  have hW9 : (W : Int) ≤ 26 := by have := hS.hW; omega
  clear hg hS hT hE
  go_enter Tryz.func6, Tryz.ntmps6
  go_upto_region 2 with (go_at_call 10; with_reducible refine HF.out.mono ?_; rintro e w1 ⟨v, rfl, HR⟩)
  obtain ⟨p1, c1, rfl, hM⟩ := HR.out.fm
  have HM : Hid (ps.FM w1 p1 xs ∧ Bw w w1) := ⟨hM, HR.out.below⟩
  have HCK : Hid (Calls Tryz.prog 8 #[.slice p1 xs.length c1] w1 fun e w' => e = .returned .nilIface ∧ Bw w1 w') := (ps.gcheck_any p1 c1 xs w1 hM (HE.out.below HR.out.below HE.out.size)).mono fun e w' ⟨⟨t, h1, h2⟩, hb⟩ => by
    have e0 := h2.one HT.out
    subst e0
    exact ⟨h1, hb⟩
  clear hM HR HF HT HE
  have hH8 : ¬ (H : Int) > 99 := by omega
  have hW8 : ¬ (W : Int) > 26 := by omega
  go_upto_region 7 with (go_at_call 8; with_reducible refine HCK.out.mono ?_; rintro e w2 ⟨rfl, hb2⟩)
  have HM2 : Hid (ps.FM w2 p1 xs ∧ Bw w w2) := ⟨fm_next HM.out.1 hb2, HM.out.2.tr hb2⟩
  clear HM hb2 HCK
  go_upto_block 0 with fail
  go_wp2_with fail
  go_loopw [21] (fun s21 wr => ∃ i : Nat, s21 = .int .i64 (i : Int) ∧ i ≤ H ∧ w2 = wr) (fun s21 _ => H - (intOf s21).toNat)
  case atStart => exact ⟨0, rfl, Nat.zero_le _, rfl⟩
  case round =>
    obtain ⟨i, rfl, hi, rfl⟩ := hrel
    have hi0 : (0 : Int) ≤ (i : Int) := by omega
    by_cases hlt : i < H
    · have hlt' : (i : Int) < (H : Int) := by omega
      obtain ⟨g, o, q, kk, rfl, c1', -⟩ := (HG.out.next HM2.out.2).at (grid_at hlt)
      have hl : ((List.range W).map fun j => gt xs i j).length = W := by rw [List.length_map, List.length_range]
      rw [hl] at c1'
      clear hl
      go_wp2_with fail
      exact ⟨⟨i + 1, rfl, hlt, by first | rfl | trivial⟩, by simp [intOf]; omega⟩
    · have hlt' : ¬ (i : Int) < (H : Int) := by omega
      go_wp2_with fail
      exact bodyPost_ret (v := .tuple #[.slice p1 xs.length c1, .nilIface]) (by simp [results, Tryz.results6, go_sem]) rfl ⟨p1, ⟨c1, rfl⟩, HM2⟩
end Go.Proofs.YtdinmgepdeigjaaGreatDoor.fw
