
/- The law MergeHands, whole. Conditions: what the package variables hold. -/
import Derived.Test.YtomgjjngkffbbaaGreatDoorMgu
namespace Go.Proofs.YtomgjjngkffbbaaGreatDoor.fw
open Go Go.RowKit Go.Sort Go.Maps
/-- What Three answers where it should be a list, and no cell. -/
def ThH (w : World) (c : List ps.Fl) (pv : Option Addr) (nv cv nu : Nat) (ev : Value) (w' : World) : Prop :=
  Bw w w' ∧ ((∃ z, ev = .iface 67 (.int .i64 z) ∧ pv = none ∧ nv = 0 ∧ cv = 0) ∨ (ev = .nilIface ∧ nv = c.length ∧ nu = 0 ∧ c.length ≤ 200 ∧ FC w' pv cv c))
theorem ThG.hand {w : World} {s a b c : List ps.Fl} {pv pu : Option Addr} {nv cv nu cu : Nat} {ev : Value} {w' : World} (h : ThG w s a b pv nv cv pu nu cu ev w') (h1 : ps.Told s 0 → ps.Told a 0 → ps.Told b 0 → ps.th s a b = c ∧ boT s a b = []) : ThH w c pv nv cv nu ev w' := by
  rcases h with ⟨hb, ⟨z, h2, h3, h4, h5, -⟩ | ⟨h2, t1, t2, t3, h3, h4, h5, h6, -⟩⟩
  · exact ⟨hb, .inl ⟨z, h2, h3, h4, h5⟩⟩
  · obtain ⟨e1, e2⟩ := h1 t1 t2 t3
    rw [e2] at h4
    rw [e1] at h3 h6
    exact ⟨hb, .inr ⟨h2, h3, h4, by omega, h6⟩⟩
theorem sheets_hand {w w' : World} {c : List ps.Fl} {pv : Option Addr} {nv cv nu : Nat} {ev : Value} (h : ThH w c pv nv cv nu ev w') (r : Option Addr) (cr : Nat) (hc : FC w' r cr c) :
    Calls Tryz.prog 21 #[.slice pv nv cv, .slice r c.length cr] w' fun e w2 => ∃ x, e = .returned (.bool x) ∧ (ev = .nilIface → x = true) ∧ Bw w' w2 := by
  rcases h with ⟨hb, ⟨z, rfl, rfl, rfl, rfl⟩ | ⟨rfl, rfl, h2, h3, h4⟩⟩
  · exact (rsheets_nil c.length r cr w').mono fun e w2 ⟨⟨x, h1⟩, h2⟩ => ⟨x, h1, (fun h => by cases h), h2⟩
  · exact (rsheets_fm c pv r cv cr w' h4.1 hc.1 (by omega)).mono fun e w2 ⟨h1, h2⟩ => ⟨true, h1, fun _ => rfl, h2⟩
theorem three_small (p1 : Option Addr) (wx : World) (h : FC wx p1 2 smL) (hE : ps.EnvP wx) : Calls Tryz.prog 16 #[.slice none 0 0, .slice p1 2 2, .slice none 0 0] wx fun e w' => ∃ p' c' u' k', e = .returned (.tuple #[.slice p' 2 c', .slice u' 0 k', .nilIface]) ∧ Bw wx w' := by
  refine (three_gen none p1 none 0 2 0 [] smL [] wx (.inl rfl) h.1 (.inl rfl) hE).mono fun e w' ⟨pv, nv, cv, pu, nu, cu, ev, h1, hb, h2⟩ => ?_
  rcases h2 with ⟨z, -, -, -, -, -, -, -, h3⟩ | ⟨rfl, -, -, -, h3, h4, -⟩
  · exact absurd ⟨ps.told_nil, told_sm, ps.told_nil, by rw [th_small]; decide⟩ h3
  · rw [th_small] at h3
    rw [boT_second] at h4
    subst h3 h4
    exact ⟨pv, cv, pu, cu, h1, hb⟩
theorem get_pair {D : List ps.Fl} {B : List (Int × Int)} (h : D.map (fun x => (x.c, x.r)) = B) {i : Nat} {x : ps.Fl} (hx : D[i]? = some x) : B[i]? = some (x.c, x.r) := by
  rw [← h, List.getElem?_map, hx]
  rfl
set_option maxRecDepth 1000000 in
set_option maxHeartbeats 16000000 in
theorem mergeHands_any (p q r : Option Addr) (cp cq cr : Nat) (s a b : List ps.Fl) (w : World) (hs : FC w p cp s) (ha : FC w q cq a) (hb : FC w r cr b) (hE : ps.EnvP w) :
    Calls Tryz.prog 7 #[.slice p s.length cp, .slice q a.length cq, .slice r b.length cr] w fun e w' => e = .returned (.bool true) ∧ Bw w w' := by
  have HS : Hid (Calls Tryz.prog 19 #[] w fun e w' => ∃ p, e = .returned (.slice p 2 2) ∧ FC w' p 2 smL ∧ Bw w w') := small_any w
  have HF : Hid (∀ p1 wx, Bw w wx → FC wx p1 2 smL → Calls Tryz.prog 16 #[.slice none 0 0, .slice p1 2 2, .slice none 0 0] wx fun e w' => ∃ p' c' u' k', e = .returned (.tuple #[.slice p' 2 c', .slice u' 0 k', .nilIface]) ∧ Bw w w') := fun p1 wx h1 h2 => (three_small p1 wx h2 (hE.below h1 hE.size)).mono fun e w' ⟨p', c', u', k', e1, e2⟩ => ⟨p', c', u', k', e1, h1.tr e2⟩
  have H1 : Hid (∀ wx, Bw w wx → Calls Tryz.prog 16 #[.slice p s.length cp, .slice p s.length cp, .slice r b.length cr] wx fun e w' => ∃ pv nv cv pu nu cu ev, e = .returned (.tuple #[.slice pv nv cv, .slice pu nu cu, ev]) ∧ Hid (ThH w b pv nv cv nu ev w')) := fun wx h => (three_gen p p r cp cp cr s s b wx (hs.1.below h) (hs.1.below h) (hb.1.below h) (hE.below h hE.size)).mono fun e w' ⟨pv, nv, cv, pu, nu, cu, ev, e1, e2⟩ => ⟨pv, nv, cv, pu, nu, cu, ev, e1, h.tr e2.1, (e2.hand (c := b) fun _ _ _ => ⟨ps.th_first s b, boT_first s b⟩).2⟩
  have H2 : Hid (∀ wx, Bw w wx → Calls Tryz.prog 16 #[.slice p s.length cp, .slice q a.length cq, .slice q a.length cq] wx fun e w' => ∃ pv nv cv pu nu cu ev, e = .returned (.tuple #[.slice pv nv cv, .slice pu nu cu, ev]) ∧ Hid (ThH w a pv nv cv nu ev w')) := fun wx h => (three_gen p q q cp cq cq s a a wx (hs.1.below h) (ha.1.below h) (ha.1.below h) (hE.below h hE.size)).mono fun e w' ⟨pv, nv, cv, pu, nu, cu, ev, e1, e2⟩ => ⟨pv, nv, cv, pu, nu, cu, ev, e1, h.tr e2.1, (e2.hand (c := a) fun t1 t2 _ => ⟨ps.th_alike t1.fine.ing t2.fine.srt t2.fine.ful t2.fine.ing, boT_alike s a⟩).2⟩
  have G1 : Hid (∀ pv nv cv nu ev wx, ThH w b pv nv cv nu ev wx → Calls Tryz.prog 21 #[.slice pv nv cv, .slice r b.length cr] wx fun e w2 => ∃ x, e = .returned (.bool x) ∧ (ev = .nilIface → x = true) ∧ Bw w w2) := fun pv nv cv nu ev wx h => (sheets_hand h r cr (hb.next h.1)).mono fun e w2 ⟨x, e1, e2, e3⟩ => ⟨x, e1, e2, h.1.tr e3⟩
  have G2 : Hid (∀ pv nv cv nu ev wx, ThH w a pv nv cv nu ev wx → Calls Tryz.prog 21 #[.slice pv nv cv, .slice q a.length cq] wx fun e w2 => ∃ x, e = .returned (.bool x) ∧ (ev = .nilIface → x = true) ∧ Bw w w2) := fun pv nv cv nu ev wx h => (sheets_hand h q cq (ha.next h.1)).mono fun e w2 ⟨x, e1, e2, e3⟩ => ⟨x, e1, e2, h.1.tr e3⟩
  have H4 : Hid (∀ wx, Bw w wx → Calls Tryz.prog 16 #[.slice p s.length cp, .slice q a.length cq, .slice r b.length cr] wx fun e w' => ∃ pv nv cv pu nu cu ev, e = .returned (.tuple #[.slice pv nv cv, .slice pu nu cu, ev]) ∧ Hid (Bw w wx ∧ ThG wx s a b pv nv cv pu nu cu ev w')) := fun wx h => (three_gen p q r cp cq cr s a b wx (hs.1.below h) (ha.1.below h) (hb.1.below h) (hE.below h hE.size)).mono fun e w' ⟨pv, nv, cv, pu, nu, cu, ev, e1, e2⟩ => ⟨pv, nv, cv, pu, nu, cu, ev, e1, h, e2⟩
  have H5 : Hid (∀ wx, Bw w wx → Calls Tryz.prog 16 #[.slice p s.length cp, .slice r b.length cr, .slice q a.length cq] wx fun e w' => ∃ pv nv cv pu nu cu ev, e = .returned (.tuple #[.slice pv nv cv, .slice pu nu cu, ev]) ∧ Hid (Bw w wx ∧ ThG wx s b a pv nv cv pu nu cu ev w')) := fun wx h => (three_gen p r q cp cr cq s b a wx (hs.1.below h) (hb.1.below h) (ha.1.below h) (hE.below h hE.size)).mono fun e w' ⟨pv, nv, cv, pu, nu, cu, ev, e1, e2⟩ => ⟨pv, nv, cv, pu, nu, cu, ev, e1, h, e2⟩
  have HEN : Hid (ps.EnvP w) := hE
  obtain ⟨ns, hns⟩ : ∃ n, s.length = n := ⟨_, rfl⟩
  obtain ⟨na, hna⟩ : ∃ n, a.length = n := ⟨_, rfl⟩
  obtain ⟨nb, hnb⟩ : ∃ n, b.length = n := ⟨_, rfl⟩
  rw [hns, hna, hnb] at H4 H5
  rw [hns, hna] at H2
  rw [hns, hnb] at H1
  rw [hnb] at G1
  rw [hna] at G2
  rw [hns, hna, hnb]
  clear hs ha hb hE hns hna hnb
  go_enter Tryz.func7, Tryz.ntmps7
  go_upto_region 2 with (first | (go_at_call 19; refine HS.out.mono ?_; rintro e w1 ⟨p1, rfl, hs1, hb1⟩) | (go_at_call 16; refine (HF.out _ _ hb1 hs1).mono ?_; rintro e w2 ⟨p2, c2, u2, k2, rfl, hb2⟩))
  have HB2 : Hid (Bw w w2) := hb2
  clear hb1 hb2 hs1 HS HF
  go_upto_region 5 with (first | (go_at_call 16; refine (H1.out _ HB2.out).mono ?_; rintro e w3 ⟨pv3, nv3, cv3, pu3, nu3, cu3, ev3, rfl, HT3⟩))
  clear H1 HB2
  go_cut [13] (fun s13 wx => ∃ x, s13 = .bool x ∧ Hid ((ev3 = .nilIface → x = true) ∧ Bw w wx))
  case first =>
    go_wp2_with (first | (go_at_call 21; refine (G1.out _ _ _ _ _ _ HT3.out).mono ?_; rintro e w4 ⟨x, rfl, hx⟩))
    go_meet
    case rel => exact ⟨x, rfl, hx⟩
  case rest =>
  obtain ⟨x3, rfl, HX3⟩ := hcut
  apply_assumption
  go_upto_region 6 with fail
  go_cut [59] (fun s59 wx => s59 = .bool false ∧ Hid (Bw w wx))
  case first =>
    rcases HT3.out with ⟨-, ⟨z, rfl, -⟩ | ⟨rfl, -, rfl, -⟩⟩
    · go_wp2_with fail
      go_meet
      case rel => exact ⟨rfl, HX3.out.2⟩
    · obtain rfl := HX3.out.1 rfl
      go_wp2_with fail
      go_meet
      case rel => exact ⟨rfl, HX3.out.2⟩
  case rest =>
  obtain ⟨rfl, HB4⟩ := hcut
  clear HX3 HT3 G1
  apply_assumption
  go_upto_region 9 with (first | (go_at_call 16; refine (H2.out _ HB4.out).mono ?_; rintro e w5 ⟨pv5, nv5, cv5, pu5, nu5, cu5, ev5, rfl, HT5⟩))
  clear H2 HB4
  go_cut [13] (fun s13 wx => ∃ x, s13 = .bool x ∧ Hid ((ev5 = .nilIface → x = true) ∧ Bw w wx))
  case first =>
    go_wp2_with (first | (go_at_call 21; refine (G2.out _ _ _ _ _ _ HT5.out).mono ?_; rintro e w4 ⟨x, rfl, hx⟩))
    go_meet
    case rel => exact ⟨x, rfl, hx⟩
  case rest =>
  obtain ⟨x5, rfl, HX5⟩ := hcut
  apply_assumption
  go_upto_region 10 with fail
  go_cut [81] (fun s81 wx => s81 = .bool false ∧ Hid (Bw w wx))
  case first =>
    rcases HT5.out with ⟨-, ⟨z, rfl, -⟩ | ⟨rfl, -, rfl, -⟩⟩
    · go_wp2_with fail
      go_meet
      case rel => exact ⟨rfl, HX5.out.2⟩
    · obtain rfl := HX5.out.1 rfl
      go_wp2_with fail
      go_meet
      case rel => exact ⟨rfl, HX5.out.2⟩
  case rest =>
  obtain ⟨rfl, HB6⟩ := hcut
  clear HX5 HT5 G2
  apply_assumption
  go_upto_region 13 with (first | (go_at_call 16; refine (H4.out _ HB6.out).mono ?_; rintro e w7 ⟨pv7, nv7, cv7, pu7, nu7, cu7, ev7, rfl, HT7⟩))
  have HB7 : Hid (Bw w w7) := HT7.out.1.tr HT7.out.2.1
  clear H4 HB6
  go_upto_region 14 with (first | (go_at_call 16; refine (H5.out _ HB7.out).mono ?_; rintro e w8 ⟨pv8, nv8, cv8, pu8, nu8, cu8, ev8, rfl, HT8⟩))
  have HB8 : Hid (Bw w w8) := HT8.out.1.tr HT8.out.2.1
  clear H5 HB7
  rcases HT7.out.2.2 with ⟨z, rfl, -⟩ | ⟨rfl, t1, t2, t3, h1, h2, h3, h4, h5⟩
  · clear HT7 HT8
    go_wp2_with fail
    go_ret
    exact ⟨rfl, HB8.out⟩
  rcases HT8.out.2.2 with ⟨z, rfl, -⟩ | ⟨rfl, -, -, -, g1, g2, g3, g4, g5⟩
  · clear HT7 HT8 h1 h2 h3 h4 h5 t1 t2 t3
    go_wp2_with fail
    go_ret
    exact ⟨rfl, HB8.out⟩
  rw [← boT_turned s a b] at g2 g5
  have HTo : Hid (ps.Told (ps.th s a b) 0 ∧ ps.Told (ps.th s b a) 0) := ⟨ps.th_told t1 t2 t3 (by omega), ps.th_told t1 t3 t2 (by omega)⟩
  have HDB : Hid ((ps.df (ps.th s a b) (ps.th s b a) 2574).map (fun x => (x.c, x.r)) = boT s a b) := df_boT t1.fine t2.fine t3.fine
  have HLB : (boT s a b).length ≤ 2574 := boT_len s a b
  have b78 : Bw w7 w8 := HT8.out.2.1
  have HC : Hid (Calls Tryz.prog 17 #[.slice pu7 nu7 cu7, .slice pu8 nu8 cu8] w8 fun e w' => e = .returned (.bool true) ∧ Bw w8 w') := by
    exact rcells_any (boT s a b) _ _ _ _ w8 (h5.next b78) g5 (by omega)
  have HFF : Hid (FC w8 pv7 cv7 (ps.th s a b) ∧ FC w8 pv8 cv8 (ps.th s b a)) := ⟨h4.next b78, g4⟩
  have HRC : Hid (∃ w0, RV cL w0 (.slice pu7 nu7 cu7) (boT s a b) w8) := ⟨_, h5.next b78⟩
  have HDF : Hid (∀ wx, Bw w8 wx → Calls Tryz.prog 11 #[.slice pv7 nv7 cv7, .slice pv8 nv8 cv8] wx fun e w' => ∃ p' c', e = .returned (.tuple #[.slice p' nu7 c', .nilIface]) ∧ Hid (Bw w8 w' ∧ FC w' p' c' (ps.df (ps.th s a b) (ps.th s b a) 2574))) := fun wx h => by
    have hl : (ps.df (ps.th s a b) (ps.th s b a) 2574).length = nu7 := by rw [h2, ← HDB.out, List.length_map]
    rw [h1, g1]
    refine (diff_good pv7 pv8 cv7 cv8 _ _ wx (HFF.out.1.1.below h) (HFF.out.2.1.below h) (HEN.out.below (HB8.out.tr h) HEN.out.size) HTo.out.1 HTo.out.2).mono fun e w' ⟨p', c', e1, e2, e3⟩ => ⟨p', c', ?_, h.tr e3, e2⟩
    rw [e1, hl]
  have HLD : Hid (nu7 = (ps.df (ps.th s a b) (ps.th s b a) 2574).length) := by show _ = _; rw [h2, ← HDB.out, List.length_map]
  have HG1 : Hid (nv7 ≤ 200 ∧ nu8 = nu7) := ⟨h3, by rw [g2, h2]⟩
  have hn9 : (nu7 : Int) ≤ 2574 := by omega
  clear h1 h2 h3 h4 h5 g1 g2 g3 g4 g5 t1 t2 t3 b78 HLB HT7 HT8
  obtain ⟨D, hD⟩ : ∃ D, ps.df (ps.th s a b) (ps.th s b a) 2574 = D := ⟨_, rfl⟩
  obtain ⟨B, hB⟩ : ∃ B, boT s a b = B := ⟨_, rfl⟩
  rw [hD] at HDF HDB HLD
  rw [hB] at HDB HRC
  clear hD hB HFF HTo
  obtain ⟨m, hm⟩ : ∃ m, nu7 = m := ⟨_, rfl⟩
  subst hm
  go_upto_region 17 with (first | (go_at_call 17; refine HC.out.mono ?_; rintro e w9 ⟨rfl, hb9⟩))
  have HB9 : Hid (Bw w8 w9) := hb9
  clear hb9 HC
  go_upto_region 18 with (first | (go_at_call 11; refine (HDF.out _ HB9.out).mono ?_; rintro e w10 ⟨pd, cd, rfl, HD10⟩))
  have HR10 : Hid (∃ w0, RV cL w0 (.slice pu7 nu7 cu7) B w10) := HRC.out.imp fun w0 h => h.next HD10.out.1
  have HB10 : Hid (Bw w w10) := HB8.out.tr HD10.out.1
  clear HRC HB9 HDF
  go_upto_block 0 with fail
  go_cut [] (fun wx => Hid (Bw w wx))
  case first =>
    go_wp2_with fail
    go_loopw [19] (fun s19 wr => ∃ i : Nat, s19 = .int .i64 (i : Int) ∧ i ≤ nu7 ∧ Hid (Bw w10 wr)) (fun s19 _ => nu7 - (intOf s19).toNat)
    case atStart => exact ⟨0, rfl, Nat.zero_le _, Below.refl _ _⟩
    case round =>
      obtain ⟨i, rfl, hi, HR⟩ := hrel
      by_cases hlt : i < nu7
      · have hlt' : (i : Int) < (nu7 : Int) := by omega
        have hi0 : (0 : Int) ≤ (i : Int) := by omega
        obtain ⟨x, hx⟩ : ∃ x, D[i]? = some x := ⟨_, List.getElem?_eq_getElem (by rw [← HLD.out]; exact hlt)⟩
        have hxB := get_pair HDB.out hx
        obtain ⟨w0, hRC⟩ := HR10.out
        obtain ⟨gX, oX, rfl, -, q0, q1, q2⟩ := fm_at (fm_next HD10.out.2.1 HR.out) hx
        obtain ⟨gY, k8, e1', r0, r1⟩ := (hRC.next HR.out).two hxB
        injection e1' with e2' e3' e4'
        subst e2'
        have e28 : ∀ W, (binOp BinOp.neq 43 (.agg #[.int .i64 x.c, .int .i64 x.r]) (.agg #[.int .i64 x.c, .int .i64 x.r])).run Tryz.prog W = .ok (.bool false) W := fun W => by rw [neq28]; simp
        clear hx hxB hRC e3' e4'
        obtain ⟨xc, xr, xs⟩ := x
        dsimp only at q0 q1 q2 r0 r1 e28
        go_wp2_with fail
        go_cut [141] (fun s141 wx => s141 = .bool false ∧ wx = wr.drew)
        case first =>
          go_region
          all_goals
            go_wp2_with fail
            go_meet
            case rel => exact ⟨rfl, rfl⟩
        case rest =>
        obtain ⟨rfl, rfl⟩ := hcut
        apply_assumption
        clear q0 q1 q2 r0 r1 e28
        have HR2 : Hid (Bw w10 wr.drew) := HR.out.drew
        go_wp2_with fail
        exact ⟨⟨i + 1, by simp, hlt, HR2⟩, by simp [intOf]; omega⟩
      · have hlt' : ¬ (i : Int) < (nu7 : Int) := by omega
        go_wp2_with fail
        go_meet
        case rel => exact HB10.out.tr HR.out
  case rest =>
  have HC := hcut
  clear hcut
  apply_assumption
  go_wp2_with fail
  go_ret
  exact ⟨rfl, HC.out⟩
end Go.Proofs.YtomgjjngkffbbaaGreatDoor.fw
