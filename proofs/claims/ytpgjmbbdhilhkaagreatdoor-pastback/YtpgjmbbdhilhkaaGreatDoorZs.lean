/- The law: what is undone is as if it had not been. Conditions: as the theorem says. -/
import Derived.Test.YtpgjmbbdhilhkaaGreatDoorZr
import Derived.Test.YtpgjmbbdhilhkaaGreatDoorZk
namespace Go.Proofs.YtpgjmbbdhilhkaaGreatDoor.ps
open Go.RowKit
open adr (C)
abbrev YC (w : World) (gy oy : Nat) (f : Fl) (wx : World) : Prop := wx.cell? ⟨gy, oy, none⟩ = some (.int .i64 f.c) ∧ wx.cell? ⟨gy, oy + 1, none⟩ = some (.int .i64 f.r) ∧ wx.cell? ⟨gy, oy + 2, none⟩ = some (.string f.s) ∧ Below w.heap.size w wx
abbrev fx : Fl := ⟨1, 1, ⟨#[120]⟩⟩
theorem ok_fx : OKs [fx] := by
  refine ⟨by simp, by simp [Srt], fun x hx => ?_⟩
  have e : x = fx := by simpa using hx
  subst e
  exact ⟨by decide, by decide, by decide, by decide +kernel⟩
theorem wt_fx : wt [] fx = [fx] := rfl
theorem txt_fx : txt [] 1 1 ≠ fx.s := fun e => by
  have := congrArg ByteArray.size e
  exact absurd this (by decide)
set_option maxRecDepth 100000 in
set_option maxHeartbeats 16000000 in
theorem back_any (p q : Option Addr) (c d : Nat) (xs ys : List Fl) (w : World) (hx : FM w p xs) (hy : FM w q ys) (hE : EnvP w) (hc : p = none → c = 0) :
    Calls Tryz.prog 3 #[.slice p xs.length c, .slice q ys.length d] w fun e w' => e = .returned (.bool true) ∧ Below w.heap.size w w' := by
  have HN1 : Hid (Calls Tryz.prog 5 #[.slice p xs.length c] w fun e w' => (∃ ptr v, e = .returned (.tuple #[ptr, v]) ∧ NW w xs ptr v w') ∧ Below w.heap.size w w') := new_any p c xs w hx hE hc
  have HX : Hid (FM w p xs ∧ FM w q ys ∧ EnvP w) := ⟨hx, hy, hE⟩
  obtain ⟨m, hm⟩ : ∃ m, ys.length = m := ⟨_, rfl⟩
  have HM : Hid (ys.length = m) := hm
  rw [hm]
  clear hx hy hE hm hc
  go_enter Tryz.func3, Tryz.ntmps3
  go_wp2_with fail
  refine HN1.out.mono ?_
  rintro e w1 ⟨⟨ptr, v, rfl, hw⟩, hb1⟩
  rcases hw with ⟨⟨t, x, rfl⟩, -⟩ | ⟨rfl, h1, h2, h3, bp, vn, rfl, hbp, hps⟩
  · go_wp2_with fail
    go_ret
    exact ⟨rfl, hb1⟩
  · have HP1 : Hid (PS w1 bp xs [] 0 vn (.slice none 0 0) ∧ GoodS xs [] ∧ Below w.heap.size w w1 ∧ w.heap.size ≤ bp ∧ xs.length ≤ 200) := ⟨hps, GoodS.nil h1 h2 h3, hb1, hbp, h1⟩
    clear hps h1 h2 h3 hb1 hbp HN1
    have HN2 : Hid (Calls Tryz.prog 5 #[.slice none 0 0] w1 fun e w' => (∃ ptr v, e = .returned (.tuple #[ptr, v]) ∧ NW w1 [] ptr v w') ∧ Below w1.heap.size w1 w') := new_any none 0 [] w1 (.inl rfl) (HX.out.2.2.below HP1.out.2.2.1 HX.out.2.2.size) (fun _ => rfl)
    go_wp2_with fail
    refine HN2.out.mono ?_
    rintro e w2 ⟨⟨ptr, v, rfl, hw⟩, hb2⟩
    rcases hw with ⟨-, hno⟩ | ⟨rfl, -, -, -, b1, vn1, rfl, hb1', hps1⟩
    · exact absurd ⟨by simp, by simp [Srt], fun x hx => by cases hx⟩ hno
    · have hB2 := bnext HP1.out.2.2.1 hb2 HP1.out.2.2.1.size
      have HS1 : Hid (Calls Tryz.prog 6 #[.pointer (some ⟨b1, 0, none⟩), C 1 1, .string ⟨#[120]⟩] w2 fun e w' => ∃ v, e = .returned v ∧ G1 b1 [] [] vn1 (.slice none 0 0) fx (fun _ => ¬ OKs [fx]) w2 v w') := set_any b1 [] [] vn1 _ fx (fun _ => ¬ OKs [fx]) w2 hps1 (by simp) (by simp) (by simp [Srt]) (fun wx hx => scheck_any fx wx ((HX.out.2.2.below hB2 HX.out.2.2.size).below hx (Nat.lt_of_lt_of_le HX.out.2.2.size hB2.size)))
      have HB2 : Hid (Below w1.heap.size w1 w2 ∧ w1.heap.size ≤ b1) := ⟨hb2, hb1'⟩
      clear hb2 hb1' hps1 HN2 hB2
      go_wp2_with fail
      refine HS1.out.mono ?_
      rintro e w3 ⟨v, rfl, hk, hg⟩
      obtain ⟨rfl, s1, vn2, vs2, hps2⟩ : v = .nilIface ∧ ∃ s vn' vs', PS w3 b1 [fx] [s] 1 vn' vs' := by
        rcases hg with ⟨-, h⟩ | ⟨e, -, s, a, b, -, -, h⟩
        · rcases h with h | h | h
          · exact absurd ok_fx h
          · exact absurd h (by rw [wt_fx]; simp)
          · exact absurd h.2 txt_fx
        · exact ⟨e, s, a, b, h⟩
      have HNo : Hid (Calls Tryz.prog 7 #[.pointer (some ⟨b1, 0, none⟩)] w3 fun e w' => (∃ v, e = .returned v ∧ FB w' v [fx]) ∧ Below w3.heap.size w3 w') := now_any b1 [fx] [s1] 1 vn2 vs2 w3 hps2 (by simp)
      have HB3 : Hid (Below w1.heap.size w1 w3) := HB2.out.1.trans (hk.below.mono HB2.out.2)
      clear hk hg hps2 HS1 HB2
      go_wp2_with fail
      refine HNo.out.mono ?_
      rintro e w4 ⟨⟨v, rfl, hv⟩, hb4⟩
      obtain ⟨gv, cv, rfl, -⟩ := hv.one
      have hB4 := bnext HB3.out hb4 HB3.out.size
      have HP4 : Hid (PS w4 bp xs [] 0 vn (.slice none 0 0) ∧ Below w.heap.size w w4) := ⟨HP1.out.1.next hB4, bnext HP1.out.2.2.1 hB4 HP1.out.2.2.1.size⟩
      clear hv hb4 hB4 HB3 HNo
      go_wp2_with fail
      go_loopw [10] (fun a wr => ∃ i : Nat, a = .int .i64 i ∧ i ≤ m ∧ i ≤ 60 ∧ ∃ st vn vs, st.length ≤ i ∧ PS wr bp (run xs st) st st.length vn vs ∧ GoodS xs st ∧ Below w.heap.size w wr) (fun a _ => 60 - (intOf a).toNat)
      case atStart => exact ⟨0, rfl, Nat.zero_le _, Nat.zero_le _, [], _, _, Nat.le_refl _, HP4.out.1, HP1.out.2.1, HP4.out.2⟩
      case round =>
        obtain ⟨i, rfl, him, hi60, st, vn5, vs5, hst, hps, hgood, hbl⟩ := hrel
        have HR : Hid (PS wr bp (run xs st) st st.length vn5 vs5 ∧ GoodS xs st ∧ Below w.heap.size w wr ∧ st.length ≤ i) := ⟨hps, hgood, hbl, hst⟩
        clear hps hgood hbl hst HP4
        have hi0 : (0 : Int) ≤ (i : Int) := by omega
        have hi6 : (i : Int) ≤ 60 := by omega
        go_upto_region 12 with fail
        go_cut [53] (fun s53 wx => ∃ b : Bool, s53 = .bool b ∧ (b = true → i < m ∧ i < 60) ∧ wx = wr)
        case first =>
          by_cases h1 : i < m
          · have h1' : (i : Int) < (m : Int) := by omega
            by_cases h2 : i < 60
            · have h2' : (i : Int) < 60 := by omega
              go_wp2_with fail
              go_meet
              case rel => exact ⟨true, rfl, fun _ => ⟨h1, h2⟩, rfl⟩
            · have h2' : ¬ (i : Int) < 60 := by omega
              go_wp2_with fail
              go_meet
              case rel => exact ⟨false, rfl, fun h => (by cases h), rfl⟩
          · have h1' : ¬ (i : Int) < (m : Int) := by omega
            go_wp2_with fail
            go_meet
            case rel => exact ⟨false, rfl, fun h => (by cases h), rfl⟩
        case rest =>
        obtain ⟨b, rfl, hb, rfl⟩ := hcut
        cases b with
        | true =>
          obtain ⟨h1, h2⟩ := hb rfl
          have h1' : (i : Int) < (m : Int) := by omega
          obtain ⟨f, hf⟩ : ∃ f, ys[i]? = some f := ⟨_, List.getElem?_eq_getElem (by rw [HM.out]; exact h1)⟩
          obtain ⟨gy, oy, rfl, hgy⟩ := HX.out.2.1.at hf
          have hfy := FM.cells (HX.out.2.1.below (HR.out.2.2.1.drew)) hf
          obtain ⟨q0, q1, q2⟩ := hfy
          have hwh := HR.out.2.1.whole
          have HSet : Hid (Calls Tryz.prog 6 #[.pointer (some ⟨bp, 0, none⟩), C f.c f.r, .string f.s] wc.drew fun e w' => ∃ v, e = .returned v ∧ G1 bp (run xs st) st vn5 vs5 f (fun _ => ¬ OKs [f]) wc.drew v w') := set_any bp (run xs st) st vn5 vs5 f (fun _ => ¬ OKs [f]) wc.drew (HR.out.1.next (Below.refl _ _).drew) (by have := HR.out.2.2.2; omega) hwh.1 hwh.2.1 (fun wx hx => scheck_any f wx ((HX.out.2.2.below HR.out.2.2.1.drew HX.out.2.2.size).below hx (Nat.lt_of_lt_of_le HX.out.2.2.size HR.out.2.2.1.drew.size)))
          clear hwh hf
          have h0d : YC w gy (oy + i * 3) f wc.drew := ⟨q0, q1, q2, HR.out.2.2.1.drew⟩
          have SOF : Hid (∀ wx, Below w.heap.size w wx → YC w gy (oy + i * 3) f wx) := fun wx hb => by
            have e := fun o => (hb.cell (p := ⟨gy, o, none⟩) hgy).trans (HR.out.2.2.1.drew.cell (p := ⟨gy, o, none⟩) hgy).symm
            exact ⟨(e _).trans q0, (e _).trans q1, (e _).trans q2, hb⟩
          clear q0 q1 q2
          go_wp2_with fail
          go_region_held3 (fun wx => YC w gy (oy + i * 3) f wx) (first | exact h0d | exact SOF.out _ hB6) (first | (go_at_call 6; refine HSet.out.mono ?_; rintro e w6 ⟨v, rfl, hk, hg⟩; have hB6 : Below w.heap.size w w6 := HR.out.2.2.1.drew.trans (hk.below.mono HP1.out.2.2.2.1)))
          all_goals
            clear h0d SOF HSet
            go_wp2_with fail
            refine ⟨⟨i + 1, rfl, h1, by omega, ?_⟩, by simp [intOf]; omega⟩
            rcases hg with ⟨hp, -⟩ | ⟨-, hlen, s, a, b, e1, e2, hp⟩
            · exact ⟨st, _, _, by have := HR.out.2.2.2; omega, hp, HR.out.2.1, hB6⟩
            · rw [← e2] at e1 hlen hp
              exact ⟨st ++ [s], _, _, by have := HR.out.2.2.2; simp; omega, by rw [run_snoc, List.length_append]; exact hp, HR.out.2.1.snoc e1 hlen, hB6⟩
        | false =>
          clear hb
          obtain ⟨K, hK⟩ : ∃ K, st.length = K := ⟨_, rfl⟩
          have hKi : (K : Int) ≤ 60 := by have := HR.out.2.2.2; omega
          have hK60 : K ≤ 60 := by omega
          have HNo : Hid (Calls Tryz.prog 7 #[.pointer (some ⟨bp, 0, none⟩)] wc fun e w' => (∃ v, e = .returned v ∧ FB w' v (run xs st)) ∧ Below wc.heap.size wc w') := now_any bp (run xs st) st st.length vn5 vs5 wc HR.out.1 (by have := HR.out.2.1.whole.1; omega)
          go_wp2_with fail
          refine HNo.out.mono ?_
          rintro e w7 ⟨⟨v, rfl, hv⟩, hb7⟩
          obtain ⟨pl, cl, rfl, -⟩ := hv.full
          have hp7 := HR.out.1.next hb7
          have HDe : Hid (Calls Tryz.prog 8 #[.pointer (some ⟨bp, 0, none⟩)] w7 fun e w' => e = .returned (.tuple #[.int .i64 K, .int .i64 0]) ∧ Below w7.heap.size w7 w') := (depth_any bp (run xs st) st st.length vn5 vs5 w7 hp7 (by omega) (Nat.le_refl _)).mono (fun e w' ⟨e1, e2⟩ => ⟨by rw [e1, hK, Int.sub_self], e2⟩)
          have HR7 : Hid (PS w7 bp (run xs st) st K vn5 vs5 ∧ FB w7 (.slice pl (run xs st).length cl) (run xs st) ∧ Below w.heap.size w w7 ∧ st.length = K ∧ GoodS xs st) := ⟨by rw [← hK]; exact hp7, hv, bnext HR.out.2.2.1 hb7 HR.out.2.2.1.size, hK, HR.out.2.1⟩
          clear hv hb7 hp7 HNo hK
          go_wp2_with fail
          refine HDe.out.mono ?_
          rintro e w8 ⟨rfl, hb8⟩
          have HR8 : Hid (PS w8 bp (run xs st) st K vn5 vs5 ∧ FB w8 (.slice pl (run xs st).length cl) (run xs st) ∧ Below w.heap.size w w8 ∧ st.length = K ∧ GoodS xs st) := ⟨HR7.out.1.next hb8, HR7.out.2.1.below hb8, bnext HR7.out.2.2.1 hb8 HR7.out.2.2.1.size, HR7.out.2.2.2⟩
          clear hb8 HDe HR7 HR
          go_wp2_with fail
          go_loopw [14] (fun a wr => ∃ (j r : Nat), a = .int .i64 j ∧ j + r = K ∧ ∃ vn, PS wr bp (run xs (st.take r)) st r vn vs5 ∧ KP bp w8 wr) (fun a _ => K - (intOf a).toNat)
          case atStart => exact ⟨0, K, rfl, by omega, vn5, by rw [List.take_of_length_le (by rw [HR8.out.2.2.2.1]; exact Nat.le_refl _)]; exact HR8.out.1, KP.refl _ _⟩
          case round =>
            obtain ⟨j, r, rfl, hjr, vn6, hp, hk⟩ := hrel
            have HU : Hid (PS wr bp (run xs (st.take r)) st r vn6 vs5 ∧ KP bp w8 wr) := ⟨hp, hk⟩
            clear hp hk
            have hj0 : (0 : Int) ≤ (j : Int) := by omega
            have hj6 : (j : Int) ≤ 60 := by omega
            by_cases hjK : j < K
            · have hjK' : (j : Int) < (K : Int) := by omega
              obtain ⟨r', rfl⟩ : ∃ r', r = r' + 1 := ⟨r - 1, by omega⟩
              obtain ⟨s, hs⟩ : ∃ s, st[r']? = some s := ⟨_, List.getElem?_eq_getElem (by have := HR8.out.2.2.2.1; omega)⟩
              have hfin := (HR8.out.2.2.2.2.fine (r' + 1) (by have := HR8.out.2.2.2.1; omega)).1
              have HUn : Hid (Calls Tryz.prog 9 #[.pointer (some ⟨bp, 0, none⟩)] wr fun e w' => e = .returned (.bool true) ∧ (∃ vn', PS w' bp (run xs (st.take r')) st r' vn' vs5) ∧ KP bp wr w') := by
                have := undo_yes bp (run xs (st.take (r' + 1))) st r' s vn6 vs5 wr HU.out.1 hs (by omega) (by have := HR8.out.2.2.2.1; omega)
                rw [run_back HR8.out.2.2.2.2 hs] at this
                exact this
              clear hs hfin
              go_wp2_with fail
              refine HUn.out.mono ?_
              rintro e w9 ⟨rfl, ⟨vn7, hp⟩, hk⟩
              have HV : Hid (PS w9 bp (run xs (st.take r')) st r' vn7 vs5 ∧ KP bp w8 w9) := ⟨hp, HU.out.2.trans hk⟩
              clear hp hk HUn
              go_wp2_with fail
              exact ⟨⟨j + 1, r', rfl, by omega, _, HV.out.1, HV.out.2⟩, by simp [intOf]; omega⟩
            · have hjK' : ¬ (j : Int) < (K : Int) := by omega
              obtain rfl : r = 0 := by omega
              have HUn : Hid (Calls Tryz.prog 9 #[.pointer (some ⟨bp, 0, none⟩)] wr fun e w' => e = .returned (.bool false) ∧ w' = wr) := undo_no bp _ st vn6 vs5 wr HU.out.1
              have HNo : Hid (Calls Tryz.prog 7 #[.pointer (some ⟨bp, 0, none⟩)] wr fun e w' => (∃ v, e = .returned v ∧ FB w' v xs) ∧ Below wr.heap.size wr w') := now_any bp xs st 0 vn6 vs5 wr HU.out.1 (by have := HP1.out.2.2.2.2; omega)
              go_wp2_with fail
              refine HUn.out.mono ?_
              rintro e w9 ⟨rfl, rfl⟩
              go_wp2_with fail
              refine HNo.out.mono ?_
              rintro e w10 ⟨⟨v, rfl, hv⟩, hb10⟩
              obtain ⟨pf, cf, rfl, hfm, -⟩ := hv.full
              have hB10 : Below w.heap.size w w10 := HR8.out.2.2.1.trans ((HU.out.2.below.mono HP1.out.2.2.2.1).trans (hb10.mono (Nat.le_trans HP1.out.2.2.2.1 (Nat.le_of_lt HU.out.1.lt))))
              have HSh : Hid (Calls Tryz.prog 10 #[.slice pf xs.length cf, .slice p xs.length c] w10 fun e w' => e = .returned (.bool true) ∧ Below w10.heap.size w10 w') := sheets_eq pf p cf c xs w10 hfm (HX.out.1.below hB10) (by have := HP1.out.2.2.2.2; omega)
              have HRA : Hid (PS w10 bp xs st 0 vn6 vs5 ∧ KP bp w8 w10) := ⟨HU.out.1.next hb10, HU.out.2.trans (KP.of hb10 (Nat.le_of_lt HU.out.1.lt))⟩
              clear hv hfm hb10 hB10 HUn HNo HU
              go_wp2_with fail
              refine HSh.out.mono ?_
              rintro e w11 ⟨rfl, hb11⟩
              have HRB : Hid (PS w11 bp xs st 0 vn6 vs5 ∧ KP bp w8 w11) := ⟨HRA.out.1.next hb11, HRA.out.2.trans (KP.of hb11 (Nat.le_of_lt HRA.out.1.lt))⟩
              clear hb11 HSh HRA
              go_wp2_with fail
              go_loopw [19] (fun a wr => ∃ j : Nat, a = .int .i64 j ∧ j ≤ K ∧ ∃ vn, PS wr bp (run xs (st.take j)) st j vn vs5 ∧ KP bp w8 wr) (fun a _ => K - (intOf a).toNat)
              case atStart => exact ⟨0, rfl, Nat.zero_le _, vn6, HRB.out.1, HRB.out.2⟩
              case round =>
                obtain ⟨l, rfl, hlK, vn7, hp, hk⟩ := hrel
                have HU : Hid (PS wr bp (run xs (st.take l)) st l vn7 vs5 ∧ KP bp w8 wr) := ⟨hp, hk⟩
                clear hp hk HRB
                have hl0 : (0 : Int) ≤ (l : Int) := by omega
                have hl6 : (l : Int) ≤ 60 := by omega
                by_cases hlt : l < K
                · have hlt' : (l : Int) < (K : Int) := by omega
                  obtain ⟨s, hs⟩ : ∃ s, st[l]? = some s := ⟨_, List.getElem?_eq_getElem (by have := HR8.out.2.2.2.1; omega)⟩
                  have hfin := (HR8.out.2.2.2.2.fine l (by have := HR8.out.2.2.2.1; omega)).1
                  have HRe : Hid (Calls Tryz.prog 11 #[.pointer (some ⟨bp, 0, none⟩)] wr fun e w' => e = .returned (.bool true) ∧ (∃ vn', PS w' bp (run xs (st.take (l + 1))) st (l + 1) vn' vs5) ∧ KP bp wr w') := by
                    have := redo_yes bp (run xs (st.take l)) st l s vn7 vs5 wr HU.out.1 hs (by omega) (by have := HR8.out.2.2.2.1; omega)
                    rw [← run_on hs] at this
                    exact this
                  clear hs hfin
                  go_wp2_with fail
                  refine HRe.out.mono ?_
                  rintro e w12 ⟨rfl, ⟨vn8, hp⟩, hk⟩
                  have HV : Hid (PS w12 bp (run xs (st.take (l + 1))) st (l + 1) vn8 vs5 ∧ KP bp w8 w12) := ⟨hp, HU.out.2.trans hk⟩
                  clear hp hk HRe
                  go_wp2_with fail
                  exact ⟨⟨l + 1, rfl, hlt, _, HV.out.1, HV.out.2⟩, by simp [intOf]; omega⟩
                · have hlt' : ¬ (l : Int) < (K : Int) := by omega
                  have hrun : run xs (st.take l) = run xs st := by rw [List.take_of_length_le (by have := HR8.out.2.2.2.1; omega)]
                  have HNo : Hid (Calls Tryz.prog 7 #[.pointer (some ⟨bp, 0, none⟩)] wr fun e w' => (∃ v, e = .returned v ∧ FB w' v (run xs st)) ∧ Below wr.heap.size wr w') := now_any bp (run xs st) st l vn7 vs5 wr (by rw [← hrun]; exact HU.out.1) (by have := HR8.out.2.2.2.2.whole.1; omega)
                  clear hrun
                  go_wp2_with fail
                  refine HNo.out.mono ?_
                  rintro e w13 ⟨⟨v, rfl, hv⟩, hb13⟩
                  obtain ⟨pf, cf, rfl, hfm, -⟩ := hv.full
                  have hk13 : KP bp w8 w13 := HU.out.2.trans (KP.of hb13 (Nat.le_of_lt HU.out.1.lt))
                  obtain ⟨p', c', e1, hfl, -⟩ := (HR8.out.2.1.kp hk13).full
                  injection e1 with e1 e2 e3
                  subst e1 e3
                  have HSh : Hid (Calls Tryz.prog 10 #[.slice pf (run xs st).length cf, .slice pl (run xs st).length cl] w13 fun e w' => e = .returned (.bool true) ∧ Below w13.heap.size w13 w') := sheets_eq pf pl cf cl (run xs st) w13 hfm hfl (by have := HR8.out.2.2.2.2.whole.1; omega)
                  have HB13 : Hid (Below w.heap.size w w13) := HR8.out.2.2.1.trans (hk13.below.mono HP1.out.2.2.2.1)
                  clear hv hb13 hk13 hfm hfl e2 HNo
                  go_wp2_with fail
                  refine HSh.out.mono ?_
                  rintro e w14 ⟨rfl, hb14⟩
                  go_wp2_with fail
                  go_ret
                  exact ⟨rfl, bnext HB13.out hb14 HB13.out.size⟩
end Go.Proofs.YtpgjmbbdhilhkaaGreatDoor.ps
