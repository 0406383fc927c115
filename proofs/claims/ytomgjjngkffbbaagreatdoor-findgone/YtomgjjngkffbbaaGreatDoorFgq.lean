
/- The law FindGone, whole. Conditions: what the package variables hold. -/
import Derived.Test.YtomgjjngkffbbaaGreatDoorFgp
import Derived.Test.YtomgjjngkffbbaaGreatDoorMgv
namespace Go.Proofs.YtomgjjngkffbbaaGreatDoor.fw
open Go Go.RowKit Go.Sort Go.Maps
/-- What the small sheet becomes. -/
def smR : List ps.Fl := [⟨1, 1, ⟨#[51]⟩⟩, ⟨2, 1, ⟨#[61, 65, 49, 43, 49]⟩⟩]
theorem ntx_sm1 : ntx (pt 50) ⟨#[51]⟩ false ⟨#[50]⟩ = ⟨#[51]⟩ := by
  unfold ntx
  rw [if_neg (by simp), pt_list, ByteArray.toList_eq]
  show txt (cntL [50] [51] [50]).2 = _
  rw [cnt_byte, if_pos rfl, cnt_nil]
  rfl
theorem plc_sm2 : plc ⟨#[61, 65, 49, 43, 49]⟩ (pt 50) false = 0 := by
  refine Nat.eq_zero_of_not_pos fun h => ?_
  rw [plc_byte, ByteArray.toList_eq] at h
  exact absurd h (by decide)
theorem plc_sm1 : plc ⟨#[50]⟩ (pt 50) false = 1 := by
  unfold plc
  rw [if_neg (by simp), pt_list]
  show (cntL [50] [] [50]).1 = 1
  rw [cnt_byte, if_pos rfl, cnt_nil]
theorem ntx_sm2 : ntx (pt 50) ⟨#[51]⟩ false ⟨#[61, 65, 49, 43, 49]⟩ = ⟨#[61, 65, 49, 43, 49]⟩ := ntx_no (show 1 ≤ (pt 50).size from Nat.le_refl 1) plc_sm2
theorem rpl_sm : rpl (pt 50) ⟨#[51]⟩ false smL = smR := by
  unfold rpl smL smR
  simp only [List.flatMap_cons, List.flatMap_nil, ntx_sm1, ntx_sm2]
  rfl
theorem tot_sm : tot (pt 50) false smL = 1 := by
  unfold tot smL
  simp only [List.map_cons, List.map_nil, plc_sm1, plc_sm2]
  rfl
theorem rpE_sm : rpE smL (pt 50) ⟨#[51]⟩ false 0 = 0 := by
  rw [rpE_loop (by decide) (by decide)]
  refine ffl_none fun j y hy => ?_
  match j, hy with
  | 0, hy => cases hy; dsimp only; rw [ntx_sm1]; decide +kernel
  | 1, hy => cases hy; dsimp only; rw [ntx_sm2]; decide +kernel
  | _ + 2, hy => cases hy
theorem replace_small (p1 : Option Addr) (wx : World) (h : FC wx p1 2 smL) (hE : ps.EnvP wx) (hm : MX wx) :
    Calls Tryz.prog 18 #[.slice p1 2 2, .string ⟨#[50]⟩, .string ⟨#[51]⟩, .bool false] wx fun e w' => ∃ g c', e = .returned (.tuple #[.slice (some ⟨g, 0, none⟩) 2 c', .int .i64 1, .nilIface]) ∧ w'.cell? ⟨g, 2, none⟩ = some (.string ⟨#[51]⟩) ∧ Bw wx w' := by
  refine (replace_any p1 2 smL (pt 50) ⟨#[51]⟩ false wx h.1 hE hm 0 told_sm).mono fun e w' h1 => ?_
  rcases h1 with ⟨h1, -⟩ | ⟨-, v, h1, h2⟩
  · exact absurd rpE_sm h1
  · rw [rpl_sm] at h2
    rw [tot_sm] at h1
    obtain ⟨g, c', rfl, -, -, hc⟩ := h2.at (i := 0) (x := ⟨1, 1, ⟨#[51]⟩⟩) rfl
    exact ⟨g, c', by rw [h1]; rfl, hc 2 _ rfl, h2.below⟩
theorem one_text (c : UInt8) (g : Nat) (wx : World) (h : wx.heap[g]? = some (.cells #[.int .u8 (c.toNat : Int)] 5 (0, 0))) : (convert 46 9 (.slice (some ⟨g, 0, none⟩) 1 1)).run Tryz.prog wx = .ok (.string (pt c)) wx := by
  have h1 := run_convert_bytes_back (P := Tryz.prog) wx 46 9 5 ⟨g, 0, none⟩ 1 [c] Tryz.underlying46 Tryz.underlying5 Tryz.underlying9 (fun j hj => by
    have : j = 0 := by simp at hj; omega
    subst this
    show wx.cell? ⟨g, 0, none⟩ = some (.int .u8 (c.toNat : Int))
    rw [cell_of_row wx g 0 _ _ (0, 0) h]
    rfl)
  exact h1
theorem rpE_zero {xs : List ps.Fl} {c : UInt8} {b : ByteArray} {t : Int} (h : rpE xs (pt c) b false t = 0) : t = 0 ∧ ffl (pt c) b false xs = 0 := by
  by_cases h0 : t = 0
  · subst h0
    refine ⟨rfl, ?_⟩
    by_cases hl : 200 < (pt c).size ∨ 200 < b.size
    · rw [rpE_long hl] at h; cases h
    · rw [rpE_loop hl (by rw [pt_size]; decide)] at h
      exact h
  · rw [rpE_told h0] at h
    exact absurd h h0
theorem FndO.is {w : World} {xs : List ps.Fl} {part : ByteArray} {wh : Bool} {e : Ending} {w' : World} (h : FndO w xs part wh 0 e w') (hp : 1 ≤ part.size) : ∃ p k, e = .returned (.tuple #[.slice p (fnd part wh xs).length k, .nilIface]) ∧ RV cL w (.slice p (fnd part wh xs).length k) (fnd part wh xs) w' := by
  rcases h with ⟨h, -⟩ | ⟨-, h, -⟩ | ⟨-, -, v, h1, h2⟩
  · exact absurd rfl h
  · omega
  · obtain ⟨p, k, rfl, -⟩ := h2.form
    exact ⟨p, k, h1, h2⟩
set_option maxRecDepth 1000000 in
set_option maxHeartbeats 16000000 in
theorem findGone_any (p : Option Addr) (cp : Nat) (l : List ps.Fl) (c : UInt8) (b : ByteArray) (w : World) (hl : FC w p cp l) (hE : ps.EnvP w) (hm : MX w) (hb9 : b.size < 140737488355328) :
    Calls Tryz.prog 5 #[.slice p l.length cp, .int .u8 (c.toNat : Int), .string b] w fun e w' => e = .returned (.bool true) ∧ Bw w w' := by
  obtain ⟨t, ht⟩ := ps.told_ex l
  have HS : Hid (Calls Tryz.prog 19 #[] w fun e w' => ∃ p, e = .returned (.slice p 2 2) ∧ FC w' p 2 smL ∧ Bw w w') := small_any w
  have HF : Hid (∀ p1 wx, Bw w wx → FC wx p1 2 smL → Calls Tryz.prog 18 #[.slice p1 2 2, .string ⟨#[50]⟩, .string ⟨#[51]⟩, .bool false] wx fun e w' => ∃ g c', e = .returned (.tuple #[.slice (some ⟨g, 0, none⟩) 2 c', .int .i64 1, .nilIface]) ∧ w'.cell? ⟨g, 2, none⟩ = some (.string ⟨#[51]⟩) ∧ Bw w w') := fun p1 wx h1 h2 => (replace_small p1 wx h2 (hE.below h1 hE.size) (hm.next h1)).mono fun e w' ⟨g, c', e1, e2, e3⟩ => ⟨g, c', e1, e2, h1.tr e3⟩
  have HR : Hid (∀ wx, Bw w wx → Calls Tryz.prog 18 #[.slice p l.length cp, .string (pt c), .string b, .bool false] wx fun e w' => ∃ pv nv cv kv ev, e = .returned (.tuple #[.slice pv nv cv, .int .i64 kv, ev]) ∧ Hid (Bw w w' ∧ ((∃ z, ev = .iface 67 (.int .i64 z)) ∨ (ev = .nilIface ∧ t = 0 ∧ ffl (pt c) b false l = 0 ∧ nv = (rpl (pt c) b false l).length ∧ kv = ((tot (pt c) false l : Nat) : Int) ∧ FC w' pv cv (rpl (pt c) b false l))))) := fun wx h => (replace_any p cp l (pt c) b false wx (hl.1.below h) (hE.below h hE.size) (hm.next h) t ht).mono fun e w' h1 => by
    rcases h1 with ⟨h1, h2, h3⟩ | ⟨h1, v, h2, h3⟩
    · exact ⟨none, 0, 0, 0, _, h2, h.tr h3, .inl ⟨_, ps.errV_some h1⟩⟩
    · obtain ⟨z1, z2⟩ := rpE_zero h1
      obtain ⟨pv, cv, rfl, hf⟩ := h3.fc
      exact ⟨pv, _, cv, _, _, h2, h.tr h3.below, .inr ⟨ps.errV_zero, z1, z2, rfl, rfl, hf⟩⟩
  have HT : Hid (ps.Told l t) := ht
  have HL : Hid (FC w p cp l) := hl
  have HEM : Hid (ps.EnvP w ∧ MX w) := ⟨hE, hm⟩
  obtain ⟨n, hn⟩ : ∃ n, l.length = n := ⟨_, rfl⟩
  have HN : Hid (l.length = n) := hn
  rw [hn] at HR ⊢
  clear ht hl hE hm hn
  go_enter Tryz.func5, Tryz.ntmps5
  go_upto_region 2 with (first | (go_at_call 19; refine HS.out.mono ?_; rintro e w1 ⟨p1, rfl, hs1, hb1⟩) | (go_at_call 18; refine (HF.out _ _ hb1 hs1).mono ?_; rintro e w2 ⟨g2, c2, rfl, hc2, hb2⟩))
  have HB2 : Hid (Bw w w2) := hb2
  clear hb1 hb2 hs1 HS HF
  go_upto_region 4 with fail
  have HB3 : Hid (Bw w (w2.alloc (.cells #[.int .u8 (c.toNat : Int)] 5))) := HB2.out.tr (Bw.al _ _)
  have hcv := one_text c w2.heap.size _ (heap_alloc_new w2 (.cells #[.int .u8 (c.toNat : Int)] 5))
  clear hc2 HB2
  go_upto_block 0 with fail
  clear hcv
  generalize w2.alloc (.cells #[.int .u8 (c.toNat : Int)] 5) = w3 at *
  go_cut [] (fun wx => Hid (c ∉ b.toList ∧ wx = w3))
  case first =>
    go_wp2_with fail
    go_loopw [11] (fun s11 wr => ∃ i : Nat, s11 = .int .i64 (i : Int) ∧ i ≤ b.size ∧ Hid ((∀ j, j < i → b.toList[j]? ≠ some c) ∧ wr = w3)) (fun s11 _ => b.size - (intOf s11).toNat)
    case atStart => exact ⟨0, rfl, Nat.zero_le _, fun j hj => absurd hj (Nat.not_lt_zero _), rfl⟩
    case round =>
      obtain ⟨i, rfl, hi, HQ⟩ := hrel
      by_cases hlt : i < b.size
      · have hlt' : (i : Int) < (b.size : Int) := by omega
        have hi0 : (0 : Int) ≤ (i : Int) := by omega
        have hat : b.toList[i]? = some b[i] := by
          rw [ByteArray.toList_eq, Array.getElem?_toList]
          exact Array.getElem?_eq_getElem hlt
        by_cases hbc : b[i] = c
        · have hq : (((b[i]).toNat : Int) == (c.toNat : Int)) = true := by rw [hbc]; simp
          have HO : Hid (wr = w3) := HQ.out.2
          clear hat HQ
          go_wp2_with fail
          go_ret
          exact ⟨rfl, by rw [HO.out]; exact HB3.out⟩
        · have hq : (((b[i]).toNat : Int) == (c.toNat : Int)) = false := by
            rw [beq_eq_false_iff_ne]
            intro e
            exact hbc (UInt8.toNat_inj.1 (by omega))
          have HE : Hid ((∀ j, j < i + 1 → b.toList[j]? ≠ some c) ∧ wr = w3) := ⟨fun j hj => by
            by_cases e : j = i
            · subst e
              rw [hat]
              intro e2
              exact hbc (Option.some.inj e2)
            · exact HQ.out.1 j (by omega), HQ.out.2⟩
          clear hat HQ
          go_wp2_with fail
          exact ⟨⟨i + 1, rfl, hlt, HE.out⟩, by simp [intOf]; omega⟩
      · have hlt' : ¬ (i : Int) < (b.size : Int) := by omega
        have HE : Hid (c ∉ b.toList ∧ wr = w3) := ⟨fun hm => by
          obtain ⟨j, hj⟩ := List.getElem?_of_mem hm
          have h1 := (List.getElem?_eq_some_iff.1 hj).1
          rw [size_list] at h1
          exact HQ.out.1 j (by omega) hj, HQ.out.2⟩
        go_wp2_with fail
        go_meet
        case rel => exact HE
  case rest =>
  have HG : Hid (c ∉ b.toList) := hcut.out.1
  obtain rfl := hcut.out.2
  clear hcut
  apply_assumption
  go_upto_region 11 with (first | (go_at_call 18; refine (HR.out _ HB3.out).mono ?_; rintro e w4 ⟨pv, nv, cv, kv, ev, rfl, H4⟩))
  have HB4 : Hid (Bw w w4) := H4.out.1
  clear HR HB3
  rcases H4.out.2 with ⟨z, rfl⟩ | ⟨rfl, rfl, hff, rfl, rfl, hfc⟩
  · clear H4
    go_wp2_with fail
    go_ret
    exact ⟨rfl, HB4.out⟩
  have HM : Hid (FC w4 pv cv (rpl (pt c) b false l) ∧ ps.Told (rpl (pt c) b false l) 0) := ⟨hfc, rpl_told HT.out hff⟩
  have HFG : Hid (fnd (pt c) false (rpl (pt c) b false l) = []) := rpl_gone HG.out l
  have HDR : Hid ((ps.df l (rpl (pt c) b false l) 2574).map (fun x => (x.c, x.r)) = fnd (pt c) false l) := df_rpl HG.out HT.out.fine
  have HTO : Hid ((fnd (pt c) false l).length ≤ tot (pt c) false l ∧ (tot (pt c) false l = 0 ↔ (fnd (pt c) false l).length = 0)) := fnd_tot (pt c) l
  have hfl : (fnd (pt c) false l).length ≤ 200 := Nat.le_trans (fnd_len _ _ _) HT.out.fine.len
  have htl : tot (pt c) false l ≤ 200 * 201 := Nat.le_trans (tot_le _ _ _ fun x hx => (HT.out.fine.cell x hx).2.2) (Nat.mul_le_mul_right _ HT.out.fine.len)
  have HLd : Hid ((ps.df l (rpl (pt c) b false l) 2574).length = (fnd (pt c) false l).length) := by show _ = _; rw [← HDR.out, List.length_map]
  have HF1 : Hid (∀ wx, Bw w wx → Calls Tryz.prog 20 #[.slice p n cp, .string (pt c), .bool false] wx fun e w' => ∃ p' k', e = .returned (.tuple #[.slice p' (fnd (pt c) false l).length k', .nilIface]) ∧ Hid (RV cL wx (.slice p' (fnd (pt c) false l).length k') (fnd (pt c) false l) w')) := fun wx h => by
    have h := (find_any p cp l (pt c) false wx (HL.out.1.below h) (HEM.out.1.below h HEM.out.1.size) (HEM.out.2.next h) 0 HT.out).mono fun e w' h => h.is (show 1 ≤ (pt c).size from Nat.le_refl 1)
    rw [HN.out] at h
    exact h
  have HF2 : Hid (∀ wx, Bw w4 wx → Calls Tryz.prog 20 #[.slice pv (rpl (pt c) b false l).length cv, .string (pt c), .bool false] wx fun e w' => ∃ p' k', e = .returned (.tuple #[.slice p' 0 k', .nilIface]) ∧ Bw wx w') := fun wx h =>
    (find_any pv cv _ (pt c) false wx (HM.out.1.1.below h) (HEM.out.1.below (HB4.out.tr h) HEM.out.1.size) (HEM.out.2.next (HB4.out.tr h)) 0 HM.out.2).mono fun e w' h => by
      obtain ⟨p', k', e1, e2⟩ := h.is (show 1 ≤ (pt c).size from Nat.le_refl 1)
      rw [HFG.out] at e1
      exact ⟨p', k', e1, e2.below⟩
  have HD : Hid (∀ wx, Bw w4 wx → Calls Tryz.prog 11 #[.slice p n cp, .slice pv (rpl (pt c) b false l).length cv] wx fun e w' => ∃ p' c', e = .returned (.tuple #[.slice p' (fnd (pt c) false l).length c', .nilIface]) ∧ Hid (Bw wx w' ∧ FC w' p' c' (ps.df l (rpl (pt c) b false l) 2574))) := fun wx h => by
    have h := (diff_good p pv cp cv l _ wx (HL.out.1.below (HB4.out.tr h)) (HM.out.1.1.below h) (HEM.out.1.below (HB4.out.tr h) HEM.out.1.size) HT.out HM.out.2).mono fun e w' ⟨p', c', e1, e2, e3⟩ => (⟨p', c', by rw [e1, HLd.out], e3, e2⟩ : ∃ p' c', e = Ending.returned (.tuple #[.slice p' (fnd (pt c) false l).length c', .nilIface]) ∧ Hid (Bw wx w' ∧ FC w' p' c' (ps.df l (rpl (pt c) b false l) 2574)))
    rw [HN.out] at h
    exact h
  clear hff hfc HFG HT HEM HL HN HM HG H4
  generalize ps.df l (rpl (pt c) b false l) 2574 = D at *
  generalize (rpl (pt c) b false l).length = nm at *
  generalize fnd (pt c) false l = F at *
  generalize tot (pt c) false l = K at *
  obtain ⟨H, hH⟩ : ∃ H, F.length = H := ⟨_, rfl⟩
  have HH : Hid (F.length = H) := hH
  rw [hH] at HF1 HD HTO HLd hfl
  clear hH
  have hK9 : (K : Int) ≤ 40200 := by omega
  have hH9 : (H : Int) ≤ 200 := by omega
  go_upto_region 14 with (first | (go_at_call 20; refine (HF1.out _ HB4.out).mono ?_; rintro e w5 ⟨p5, k5, rfl, H5⟩))
  go_upto_region 15 with (first | (go_at_call 20; refine (HF2.out _ H5.out.below).mono ?_; rintro e w6 ⟨p6, k6, rfl, hb6⟩))
  have H6 : Hid (Bw w4 w6 ∧ RV cL w4 (.slice p5 H k5) F w6) := ⟨H5.out.below.tr hb6, H5.out.next hb6⟩
  clear hb6 H5 HF1 HF2
  go_cut [104] (fun s104 wx => s104 = .bool false ∧ wx = w6)
  case first =>
    have hKH : ¬ (K : Int) < (H : Int) := by have := HTO.out.1; omega
    by_cases hz : H = 0
    · have hz2 : K = 0 := HTO.out.2.2 hz
      subst hz hz2
      go_wp2_with fail
      go_meet
      case rel => exact ⟨rfl, rfl⟩
    · have hz2 : ¬ K = 0 := fun e => hz (HTO.out.2.1 e)
      have q1 : ((K : Int) == 0) = false := by rw [beq_eq_false_iff_ne]; omega
      have q2 : ((H : Int) == 0) = false := by rw [beq_eq_false_iff_ne]; omega
      go_wp2_with fail
      go_meet
      case rel => exact ⟨rfl, rfl⟩
  case rest =>
  obtain ⟨rfl, rfl⟩ := hcut
  apply_assumption
  go_upto_region 18 with (first | (go_at_call 11; refine (HD.out _ H6.out.1).mono ?_; rintro e w7 ⟨p7, c7, rfl, H7⟩))
  have H8 : Hid (Bw w w7 ∧ RV cL w4 (.slice p5 H k5) F w7 ∧ ps.FM w7 p7 D) := ⟨HB4.out.tr (H6.out.1.tr H7.out.1), H6.out.2.next H7.out.1, H7.out.2.1⟩
  clear H6 H7 HD HB4
  go_upto_block 2 with fail
  go_cut [] (fun wx => Hid (Bw w wx))
  case first =>
    go_wp2_with fail
    go_loopw [19] (fun s19 wr => ∃ i : Nat, s19 = .int .i64 (i : Int) ∧ i ≤ H ∧ Hid (Bw w7 wr)) (fun s19 _ => H - (intOf s19).toNat)
    case atStart => exact ⟨0, rfl, Nat.zero_le _, Below.refl _ _⟩
    case round =>
      obtain ⟨i, rfl, hi, HQ⟩ := hrel
      by_cases hlt : i < H
      · have hlt' : (i : Int) < (H : Int) := by omega
        have hi0 : (0 : Int) ≤ (i : Int) := by omega
        obtain ⟨x, hx⟩ : ∃ x, D[i]? = some x := ⟨_, List.getElem?_eq_getElem (by rw [HLd.out]; exact hlt)⟩
        have hxB := get_pair HDR.out hx
        obtain ⟨gX, oX, rfl, -, q0, q1, q2⟩ := fm_at (fm_next H8.out.2.2 HQ.out) hx
        obtain ⟨gY, k8, e1', r0, r1⟩ := (H8.out.2.1.next HQ.out).two hxB
        injection e1' with e2' e3' e4'
        subst e2'
        have e28 : ∀ W, (binOp BinOp.neq 43 (.agg #[.int .i64 x.c, .int .i64 x.r]) (.agg #[.int .i64 x.c, .int .i64 x.r])).run Tryz.prog W = .ok (.bool false) W := fun W => by rw [neq28]; simp
        clear hx hxB e3' e4'
        obtain ⟨xc, xr, xs⟩ := x
        dsimp only at q0 q1 q2 r0 r1 e28
        go_wp2_with fail
        go_cut [135] (fun s135 wx => s135 = .bool false ∧ wx = wr.drew)
        case first =>
          go_region
          all_goals
            go_wp2_with fail
            go_meet
            case rel => exact ⟨rfl, rfl⟩
        case rest =>
        obtain ⟨rfl, rfl⟩ := hcut
        apply_assumption
        clear q0 q1 q2 r0 r1 e28
        have HR2 : Hid (Bw w7 wr.drew) := HQ.out.drew
        go_wp2_with fail
        exact ⟨⟨i + 1, by simp, hlt, HR2⟩, by simp [intOf]; omega⟩
      · have hlt' : ¬ (i : Int) < (H : Int) := by omega
        go_wp2_with fail
        go_meet
        case rel => exact H8.out.1.tr HQ.out
  case rest =>
  have HC := hcut
  clear hcut
  apply_assumption
  go_wp2_with fail
  go_ret
  exact ⟨rfl, HC.out⟩
end Go.Proofs.YtomgjjngkffbbaaGreatDoor.fw
