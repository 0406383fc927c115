
/- Package merge: Three. Conditions: what the package variables hold. -/
import Derived.Test.YtomgjjngkffbbaaGreatDoorJm
namespace Go.Proofs.YtomgjjngkffbbaaGreatDoor.fw
open Go Go.RowKit Go.Sort Go.Maps
theorem str_no {a b : ByteArray} (h : a ≠ b) : (a.toList == b.toList) = false := by
  rw [beq_eq_false_iff_ne]
  intro e
  rw [ByteArray.toList_eq, ByteArray.toList_eq] at e
  exact h (ByteArray.ext (Array.toList_inj.1 e))
theorem str_yes (a : ByteArray) : (a.toList == a.toList) = true := by simp
set_option maxHeartbeats 4000000 in
/-- What a cell comes to have of what two made. -/
theorem both_any (c r : Int) (s0 s1 s2 : ByteArray) (w : World) :
    Calls Tryz.prog 34 #[.agg #[.string s0, .string s1, .string s2]] w fun e w' => e = .returned (.tuple #[.string (bth ⟨c, r, s0, s1, s2⟩), .bool (clB ⟨c, r, s0, s1, s2⟩)]) ∧ Bw w w' := by
  have HB : Hid (Bw w (w.alloc (.cells #[.string s0, .string s1, .string s2] 63)) ∧ (w.alloc (.cells #[.string s0, .string s1, .string s2] 63)).heap[w.heap.size]? = some (.cells #[.string s0, .string s1, .string s2] 63 (0, 0))) := ⟨Bw.al w _, heap_alloc_new w _⟩
  go_enter Tryz.func34, Tryz.ntmps34
  go_upto_region 1 with fail
  generalize w.alloc (.cells #[.string s0, .string s1, .string s2] 63) = w1 at *
  generalize w.heap.size = g at *
  obtain ⟨r0, r1, r2⟩ := cells3z HB.out.2
  go_cut [4, 5, 6] (fun s4 s5 s6 wx => s4 = .string s0 ∧ s5 = .string s1 ∧ s6 = .string s2 ∧ wx = w1.drew)
  case first =>
    go_region
    all_goals
      go_wp2_with fail
      go_meet
      case rel => exact ⟨rfl, rfl, rfl, rfl⟩
  case rest =>
  obtain ⟨rfl, rfl, rfl, rfl⟩ := hcut
  have HD : Hid (Bw w w1.drew) := HB.out.1.drew
  clear r0 r1 r2 HB
  apply_assumption
  by_cases h1 : s1 = s0
  · subst h1
    have q1 := str_yes s1
    go_wp2_with fail
    exact bodyPost_ret (v := .tuple #[.string s2, .bool false]) (by simp [results, Tryz.results34, go_sem]) rfl ⟨by simp [bth, clB], HD.out⟩
  · have q1 := str_no h1
    by_cases h2 : s2 = s0
    · subst h2
      have q2 := str_yes s2
      go_wp2_with fail
      exact bodyPost_ret (v := .tuple #[.string s1, .bool false]) (by simp [results, Tryz.results34, go_sem]) rfl ⟨by simp [bth, clB, h1], HD.out⟩
    · have q2 := str_no h2
      by_cases h3 : s2 = s1
      · subst h3
        have q3 := str_yes s2
        go_wp2_with fail
        exact bodyPost_ret (v := .tuple #[.string s2, .bool false]) (by simp [results, Tryz.results34, go_sem]) rfl ⟨by simp [bth, clB, h1], HD.out⟩
      · have q3 := str_no h3
        go_wp2_with fail
        exact bodyPost_ret (v := .tuple #[.string s1, .bool true]) (by simp [results, Tryz.results34, go_sem]) rfl ⟨by simp [bth, clB, h1, h2, h3], HD.out⟩
/-- The first fault of Three. -/
def ThT (L : List Sh) (n : Nat) (t : Int) : Prop := (ShT L t ∧ t ≠ 0) ∨ (ShT L 0 ∧ 200 < n ∧ t = 4) ∨ (ShT L 0 ∧ n ≤ 200 ∧ t = 0)
/-- What Three answers. -/
def ThO (w : World) (s a b : List ps.Fl) (t : Int) (e : Ending) (w' : World) : Prop :=
  (t ≠ 0 ∧ e = .returned (.tuple #[.slice none 0 0, .slice none 0 0, ps.errV t]) ∧ Bw w w') ∨ (t = 0 ∧ ∃ v u, e = .returned (.tuple #[v, u, .nilIface]) ∧ RV fL w v (ps.th s a b) w' ∧ RV cL w u (boT s a b) w')
theorem shT_all {p q r : Option Addr} {cp cq cr : Nat} {s a b : List ps.Fl} (h : ShT [⟨p, cp, s⟩, ⟨q, cq, a⟩, ⟨r, cr, b⟩] 0) : ps.Told s 0 ∧ ps.Told a 0 ∧ ps.Told b 0 := by
  rcases h with ⟨-, h⟩ | ⟨h1, ⟨-, h⟩ | ⟨h2, ⟨-, h⟩ | ⟨h3, -⟩⟩⟩
  · exact absurd rfl h
  · exact absurd rfl h
  · exact absurd rfl h
  · exact ⟨h1, h2, h3⟩
set_option maxRecDepth 1000000 in
set_option maxHeartbeats 8000000 in
theorem three_any (p q r : Option Addr) (cp cq cr : Nat) (s a b : List ps.Fl) (w : World) (hs : ps.FM w p s) (ha : ps.FM w q a) (hb : ps.FM w r b) (hE : ps.EnvP w) :
    Calls Tryz.prog 16 #[.slice p s.length cp, .slice q a.length cq, .slice r b.length cr] w fun e w' => ∃ t, ThT [⟨p, cp, s⟩, ⟨q, cq, a⟩, ⟨r, cr, b⟩] (ps.th s a b).length t ∧ ThO w s a b t e w' := by
  have hb0 : Bw w (w.alloc (.cells #[.slice p s.length cp, .slice q a.length cq, .slice r b.length cr] 22)) := Bw.al w _
  have HL : Hid (Calls Tryz.prog 27 #[.slice (some ⟨w.heap.size, 0, none⟩) 3 3] (w.alloc (.cells #[.slice p s.length cp, .slice q a.length cq, .slice r b.length cr] 22)) fun e w' => ∃ (t : Int) (bo : Option Nat), e = .returned (.tuple #[.map bo, ps.errV t]) ∧ ShT [⟨p, cp, s⟩, ⟨q, cq, a⟩, ⟨r, cr, b⟩] t ∧ LyR (w.alloc (.cells #[.slice p s.length cp, .slice q a.length cq, .slice r b.length cr] 22)) [⟨p, cp, s⟩, ⟨q, cq, a⟩, ⟨r, cr, b⟩] t bo w') := by
    refine (lay_any w.heap.size 3 [⟨p, cp, s⟩, ⟨q, cq, a⟩, ⟨r, cr, b⟩] _ (by simp) (by simp) (fun i s' hs' => ?_) (hE.below hb0 hE.size)).mono fun e w' ⟨t, h1, h2⟩ => by
      obtain ⟨bo, h3, h4⟩ := h2.form
      exact ⟨t, bo, h3, h1, h4⟩
    have hB := heap_alloc_new w (.cells #[.slice p s.length cp, .slice q a.length cq, .slice r b.length cr] 22)
    obtain ⟨q0, q1, q2⟩ := cells3z hB
    match i, hs' with
    | 0, hs' => cases hs'; exact ⟨q0, hs.below hb0⟩
    | 1, hs' => cases hs'; exact ⟨q1, ha.below hb0⟩
    | 2, hs' => cases hs'; exact ⟨q2, hb.below hb0⟩
  have HB0 : Hid (Bw w (w.alloc (.cells #[.slice p s.length cp, .slice q a.length cq, .slice r b.length cr] 22))) := hb0
  obtain ⟨ns, hns⟩ : ∃ n, s.length = n := ⟨_, rfl⟩
  obtain ⟨na, hna⟩ : ∃ n, a.length = n := ⟨_, rfl⟩
  obtain ⟨nb, hnb⟩ : ∃ n, b.length = n := ⟨_, rfl⟩
  rw [hns, hna, hnb] at HL HB0 ⊢
  clear hb0 hs ha hb hE hns hna hnb
  go_enter Tryz.func16, Tryz.ntmps16
  go_upto_region 2 with (first | (go_at_call 27; refine HL.out.mono ?_; rintro e w1 ⟨t, bo, rfl, ht, hly⟩))
  have HT : Hid (ShT [⟨p, cp, s⟩, ⟨q, cq, a⟩, ⟨r, cr, b⟩] t) := ht
  by_cases h0 : t = 0
  · subst h0
    rcases hly with ⟨h1, -⟩ | ⟨-, rfl, X, hX⟩
    · exact absurd rfl h1
    rw [ps.errV_zero]
    have hsz : (w.alloc (.cells #[.slice p ns cp, .slice q na cq, .slice r nb cr] 22)).heap.size = w.heap.size + 1 := by simp
    obtain ⟨Y, hp, hs⟩ := hX.tb.sorted
    have hMY : MT w1 (w.alloc (.cells #[.slice p ns cp, .slice q na cq, .slice r nb cr] 22)).heap.size Y := hX.mt.perm hp
    have hTB : TB Y (xsAt [⟨p, cp, s⟩, ⟨q, cq, a⟩, ⟨r, cr, b⟩]) := by
      have := hX.tb.perm hp
      rw [AL_all] at this
      exact this
    have hlY : Y.length ≤ 1000 := by rw [← hp.length_eq]; have := srt_few hX (by simp); omega
    have HTB : Hid (TB Y (xsAt [⟨p, cp, s⟩, ⟨q, cq, a⟩, ⟨r, cr, b⟩]) ∧ Y.Pairwise ltT ∧ Y.length ≤ 1000) := ⟨hTB, hs, hlY⟩
    have HIS : Hid (thY Y = ps.th s a b ∧ clY Y = boT s a b) := by
      obtain ⟨t1, t2, t3⟩ := shT_all ht
      exact ⟨thY_is hs hTB t1.fine t2.fine t3.fine, clY_is hs hTB⟩
    have HB1 : Hid (Bw w w1) := HB0.out.tr hX.below
    obtain ⟨bt, hbt⟩ : ∃ bt, (w.alloc (.cells #[.slice p ns cp, .slice q na cq, .slice r nb cr] 22)).heap.size = bt := ⟨_, rfl⟩
    rw [hbt] at hMY ⊢
    have HC : Hid (Calls Tryz.prog 28 #[.map (some bt)] w1 fun e w' => (∃ p c, e = .returned (.slice p Y.length c) ∧ CM w' p Y) ∧ Bw w1 w') := cells_any bt Y hlY hs w1 hMY
    have HMY : Hid (MT w1 bt Y) := hMY
    clear hX hp hMY hTB hlY hs hsz hbt HL HB0 ht
    go_upto_block 0 with (first | (go_at_call 28; refine HC.out.mono ?_; rintro e w2 ⟨⟨py, cy, rfl, hcm⟩, hb2⟩))
    have HB2 : Hid (Bw w w2) := HB1.out.tr hb2
    have HM2 : Hid (MT w2 bt Y ∧ CM w2 py Y) := ⟨HMY.out.at (hb2.block _ HMY.out.lt), hcm⟩
    obtain ⟨n, hn⟩ : ∃ n, Y.length = n := ⟨_, rfl⟩
    have HN : Hid (Y.length = n) := hn
    have hn9 : (n : Int) ≤ 1000 := by have := HTB.out.2.2; omega
    rw [hn]
    clear hb2 hcm HC HMY HB1 hn
    go_cut [11, 12] (fun s11 s12 wx => RV fL w2 s11 (thY Y) wx ∧ RV cL w2 s12 (clY Y) wx)
    case first =>
      go_wp2_with fail
      go_loopw [11, 12, 31] (fun s11 s12 s31 wr => ∃ i : Nat, s31 = .int .i64 (i : Int) ∧ i ≤ n ∧ Hid (RV fL w2 s11 (thY (Y.take i)) wr ∧ RV cL w2 s12 (clY (Y.take i)) wr)) (fun _ _ s31 _ => n - (intOf s31).toNat)
      case atStart => exact ⟨0, rfl, Nat.zero_le _, RV.nil fL w2, RV.nil cL w2⟩
      case round =>
        obtain ⟨i, rfl, hi, HV⟩ := hrel
        have hi0 : (0 : Int) ≤ (i : Int) := by omega
        by_cases hlt : i < n
        · have hlt' : (i : Int) < (n : Int) := by omega
          obtain ⟨x, hx⟩ : ∃ x, Y[i]? = some x := ⟨_, List.getElem?_eq_getElem (by rw [HN.out]; exact hlt)⟩
          have HX : Hid (Y[i]? = some x) := hx
          obtain ⟨gy, oy, hpy, -, y0, y1⟩ := (HM2.out.2.below HV.out.1.below).at hx
          subst hpy
          have HKL : Hid (keyOf Tryz.prog 43 (.agg #[.int .i64 x.c, .int .i64 x.r]) = some (klT ⟨x.c, x.r, nul, nul, nul⟩)) := by
            have hg := HTB.out.1.grid x (List.mem_of_getElem? hx)
            exact klT_of (x := ⟨x.c, x.r, nul, nul, nul⟩) (wf_kc (by dsimp only; omega)) (wf_kc (by dsimp only; omega))
          have HOf : Hid (Tr.of Y x.c x.r = x) := Tr.of_mem HTB.out.1.one (List.mem_of_getElem? hx)
          clear hx
          go_upto_region 9 with fail
          have HV1 : Hid (RV fL w2 u11 (thY (Y.take i)) (wr.alloc (.cells #[.int .i64 x.c, .int .i64 x.r] 43)) ∧ RV cL w2 u12 (clY (Y.take i)) (wr.alloc (.cells #[.int .i64 x.c, .int .i64 x.r] 43)) ∧ (wr.alloc (.cells #[.int .i64 x.c, .int .i64 x.r] 43)).heap[wr.heap.size]? = some (.cells #[.int .i64 x.c, .int .i64 x.r] 43 (0, 0))) := ⟨HV.out.1.next (Bw.al wr _), HV.out.2.next (Bw.al wr _), heap_alloc_new wr _⟩
          generalize wr.alloc (.cells #[.int .i64 x.c, .int .i64 x.r] 43) = W1 at *
          generalize wr.heap.size = bx at *
          clear y0 y1
          obtain ⟨c0, c1⟩ := cells2w HV1.out.2.2
          obtain ⟨es, hown, hlk⟩ := HM2.out.1.at (HV1.out.1.below.block _ HM2.out.1.lt)
          have hlook := look_run hown hlk HTB.out.1.one HKL.out
          rw [HOf.out] at hlook
          clear hown hlk
          have HBT : Hid (Calls Tryz.prog 34 #[.agg #[.string x.s0, .string x.s1, .string x.s2]] W1 fun e w' => e = .returned (.tuple #[.string (bth x), .bool (clB x)]) ∧ Bw W1 w') := both_any x.c x.r x.s0 x.s1 x.s2 W1
          go_upto_region 10 with (first | (go_at_call 34; refine HBT.out.mono ?_; rintro e W2 ⟨rfl, hbt2⟩))
          have HV2 : Hid (RV fL w2 u11 (thY (Y.take i)) W2 ∧ RV cL w2 u12 (clY (Y.take i)) W2 ∧ W2.heap[bx]? = some (.cells #[.int .i64 x.c, .int .i64 x.r] 43 (0, 0))) := ⟨HV1.out.1.next hbt2, HV1.out.2.1.next hbt2, (hbt2.block _ (fm.lt_blk HV1.out.2.2)).trans HV1.out.2.2⟩
          clear c0 c1 hlook hbt2 HV1 HBT
          have HD : Hid (thY (Y.take (i + 1)) = thY (Y.take i) ++ if (bth x).size ≠ 0 then [⟨x.c, x.r, bth x⟩] else []) := by
            show _ = _
            rw [List.take_add_one, HX.out]
            exact thY_snoc _ _
          have HD2 : Hid (clY (Y.take (i + 1)) = clY (Y.take i) ++ if clB x = true then [cz x] else []) := by
            show _ = _
            rw [List.take_add_one, HX.out]
            exact clY_snoc _ _
          have hlen : (thY (Y.take i)).length ≤ 10000 := by
            have h1 := thY_len (Y.take i)
            rw [List.length_take] at h1
            omega
          have hlen2 : (clY (Y.take i)).length ≤ 10000 := by
            have h1 := clY_len (Y.take i)
            rw [List.length_take] at h1
            omega
          obtain ⟨c0, c1⟩ := cells2w HV2.out.2.2
          by_cases hne : (bth x).size = 0
          · have hD' := HD.out
            rw [if_neg (by simp [hne]), List.append_nil] at hD'
            have ebt : bth x = nul := ps.size_nul hne
            rw [ebt]
            cases hcl : clB x with
            | false =>
              have HE : Hid (RV fL w2 u11 (thY (Y.take (i + 1))) W2 ∧ RV cL w2 u12 (clY (Y.take (i + 1))) W2) := by
                refine ⟨by rw [hD']; exact HV2.out.1, ?_⟩
                rw [HD2.out, if_neg (by simp [hcl]), List.append_nil]
                exact HV2.out.2.1
              clear hD' ebt hne hlen hlen2
              go_wp2_with fail
              exact ⟨⟨i + 1, by simp, hlt, HE.out⟩, by simp [intOf]; omega⟩
            | true =>
              obtain ⟨g, k, w4, hr, hv, hv2⟩ := RV.cell2 HV2.out.1 HV2.out.2.1 hlen2 x.c x.r
              have HR4 : Hid ((Builtin.append_ #[33, 33] 33 #[u12, .slice (some ⟨W2.heap.size, 0, none⟩) 1 1]).run Tryz.prog (W2.alloc (.cells #[.int .i64 x.c, .int .i64 x.r] 43)) = .ok (.slice (some ⟨g, 0, none⟩) ((clY (Y.take i)).length + 1) k) w4) := hr
              have HE : Hid (RV fL w2 u11 (thY (Y.take (i + 1))) w4 ∧ RV cL w2 (.slice (some ⟨g, 0, none⟩) ((clY (Y.take i)).length + 1) k) (clY (Y.take (i + 1))) w4) := by
                refine ⟨by rw [hD']; exact hv, ?_⟩
                rw [HD2.out, if_pos hcl]
                exact hv2
              generalize (clY (Y.take i)).length + 1 = m at HR4 HE
              clear hr hv hv2 hlen hlen2 hD' ebt hne HD HD2
              go_wp2_with (first | (at_builtin; refine wpList_append_eq rfl _ _ 33 33 rfl _ _ _ _ rfl rfl HR4.out ?_))
              exact ⟨⟨i + 1, by simp, hlt, HE.out⟩, by simp [intOf]; omega⟩
          · have hemp : (bth x).toList.isEmpty = false := by
              rw [Bool.eq_false_iff]
              exact fun e => hne (ps.emp_yes e)
            obtain ⟨g, k, w4, hr, hv, hv2, hkeep⟩ := RV.fill2 HV2.out.1 HV2.out.2.1 hlen x.c x.r (bth x)
            have HR4 : Hid ((Builtin.append_ #[22, 22] 22 #[u11, .slice (some ⟨W2.heap.size, 0, none⟩) 1 1]).run Tryz.prog (W2.alloc (.cells #[.int .i64 x.c, .int .i64 x.r, .string (bth x)] 45)) = .ok (.slice (some ⟨g, 0, none⟩) ((thY (Y.take i)).length + 1) k) w4) := hr
            have hb4 := hkeep bx _ _ (by decide) HV2.out.2.2
            have hv' : RV fL w2 (.slice (some ⟨g, 0, none⟩) ((thY (Y.take i)).length + 1) k) (thY (Y.take (i + 1))) w4 := by
              rw [HD.out, if_pos hne]
              exact hv
            obtain ⟨d0, d1⟩ := cells2w hb4
            generalize (thY (Y.take i)).length + 1 = m at HR4 hv'
            generalize bth x = bs at *
            clear hr hv hkeep hb4 hlen hne HD
            cases hcl : clB x with
            | false =>
              have HE : Hid (RV fL w2 (.slice (some ⟨g, 0, none⟩) m k) (thY (Y.take (i + 1))) w4 ∧ RV cL w2 u12 (clY (Y.take (i + 1))) w4) := by
                refine ⟨hv', ?_⟩
                rw [HD2.out, if_neg (by simp [hcl]), List.append_nil]
                exact hv2
              clear hv' hv2 hlen2
              go_wp2_with (first | (at_builtin; refine wpList_append_eq rfl _ _ 22 22 rfl _ _ _ _ rfl rfl HR4.out ?_))
              exact ⟨⟨i + 1, by simp, hlt, HE.out⟩, by simp [intOf]; omega⟩
            | true =>
              obtain ⟨g2, k2, w5, hr, hv5, hv52⟩ := RV.cell2 hv' hv2 hlen2 x.c x.r
              have HR5 : Hid ((Builtin.append_ #[33, 33] 33 #[u12, .slice (some ⟨w4.heap.size, 0, none⟩) 1 1]).run Tryz.prog (w4.alloc (.cells #[.int .i64 x.c, .int .i64 x.r] 43)) = .ok (.slice (some ⟨g2, 0, none⟩) ((clY (Y.take i)).length + 1) k2) w5) := hr
              have HE : Hid (RV fL w2 (.slice (some ⟨g, 0, none⟩) m k) (thY (Y.take (i + 1))) w5 ∧ RV cL w2 (.slice (some ⟨g2, 0, none⟩) ((clY (Y.take i)).length + 1) k2) (clY (Y.take (i + 1))) w5) := by
                refine ⟨hv5, ?_⟩
                rw [HD2.out, if_pos hcl]
                exact hv52
              generalize (clY (Y.take i)).length + 1 = m2 at HR5 HE
              clear hr hv' hv2 hv5 hv52 hlen2 HD2
              go_upto_region 12 with (first | (at_builtin; refine wpList_append_eq rfl _ _ 22 22 rfl _ _ _ _ rfl rfl HR4.out ?_))
              go_wp2_with (first | (at_builtin; refine wpList_append_eq rfl _ _ 33 33 rfl _ _ _ _ rfl rfl HR5.out ?_))
              exact ⟨⟨i + 1, by simp, hlt, HE.out⟩, by simp [intOf]; omega⟩
        · have hlt' : ¬ (i : Int) < (n : Int) := by omega
          obtain rfl : i = n := by omega
          have HE : Hid (RV fL w2 u11 (thY Y) wr ∧ RV cL w2 u12 (clY Y) wr) := by
            have := HV.out
            rw [List.take_of_length_le (by rw [HN.out]; exact Nat.le_refl _)] at this
            exact this
          go_wp2_with fail
          go_meet
          case rel => exact HE.out
    case rest =>
    have HE : Hid (RV fL w u11 (ps.th s a b) wc ∧ RV cL w u12 (boT s a b) wc) := by
      have h1 := hcut.1.lower HB2.out
      have h2 := hcut.2.lower HB2.out
      rw [HIS.out.1] at h1
      rw [HIS.out.2] at h2
      exact ⟨h1, h2⟩
    obtain ⟨pv, cv, ev, -⟩ := HE.out.1.form
    subst ev
    clear hcut
    apply_assumption
    obtain ⟨m, hm⟩ : ∃ m, (ps.th s a b).length = m := ⟨_, rfl⟩
    have HM : Hid ((ps.th s a b).length = m) := hm
    rw [hm] at HE ⊢
    clear hm
    by_cases h200 : 200 < m
    · have h2' : (200 : Int) < (m : Int) := by omega
      go_wp2_with fail
      exact bodyPost_ret (v := .tuple #[.slice none 0 0, .slice none 0 0, .iface 67 (.int .i64 4)]) (by simp [results, Tryz.results16, go_sem]) rfl ⟨4, .inr (.inl ⟨HT.out, by rw [HM.out]; exact h200, rfl⟩), .inl ⟨by decide, by rw [ps.errV_some (by decide)], HE.out.1.below⟩⟩
    · have h2' : ¬ (200 : Int) < (m : Int) := by omega
      go_wp2_with fail
      exact bodyPost_ret (v := .tuple #[.slice pv m cv, u12, .nilIface]) (by simp [results, Tryz.results16, go_sem]) rfl ⟨0, .inr (.inr ⟨HT.out, by rw [HM.out]; omega, rfl⟩), .inr ⟨rfl, _, _, rfl, HE.out⟩⟩
  · rcases hly with ⟨-, h1⟩ | ⟨h1, -⟩
    · have HB1 : Hid (Bw w w1) := HB0.out.tr h1
      have HN2 : Hid (t ≠ 0) := h0
      rw [ps.errV_some h0]
      clear h0 h1 HL HB0 ht
      go_wp2_with fail
      exact bodyPost_ret (v := .tuple #[.slice none 0 0, .slice none 0 0, .iface 67 (.int .i64 t)]) (by simp [results, Tryz.results16, go_sem]) rfl ⟨t, .inl ⟨HT.out, HN2.out⟩, .inl ⟨HN2.out, by rw [ps.errV_some HN2.out], HB1.out⟩⟩
    · exact absurd h1 h0
end Go.Proofs.YtomgjjngkffbbaaGreatDoor.fw
