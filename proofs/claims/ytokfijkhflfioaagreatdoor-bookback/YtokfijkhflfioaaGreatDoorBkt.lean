
/- The law BookBack. Conditions: what the package variables hold. -/
import Derived.Test.YtokfijkhflfioaaGreatDoorBks
namespace Go.Proofs.YtokfijkhflfioaaGreatDoor.fw
open Go Go.RowKit Go.Sort
def f0x : ps.Fl := ⟨1, 1, ⟨#[120]⟩⟩
theorem f0x_fine : adr.isC 1 1 = true ∧ ftx ⟨#[120]⟩ = 0 := by
  refine ⟨by decide, ?_⟩
  unfold ftx
  rw [if_neg (by decide)]
  exact ps.ckT_const (by decide) (by decide) (by decide +kernel)
theorem told_fine {xs : List ps.Fl} (h : ps.Told xs 0) : ps.Srt xs ∧ ps.Ful xs ∧ (∀ x ∈ xs, Gd okT x) ∧ xs.length ≤ 200 := by
  have hf := h.fine
  refine ⟨hf.srt, fun x hx => (hf.cell x hx).2.1, fun x hx => ?_, hf.len⟩
  obtain ⟨h1, h2, h3⟩ := hf.cell x hx
  refine is_gd h1 h2 ?_
  obtain ⟨i, hi⟩ := List.getElem?_of_mem hx
  rcases h with ⟨h4, -⟩ | ⟨-, ⟨-, h5⟩ | ⟨h5, -⟩⟩
  · have := hf.len; omega
  · exact (ps.cd_zero hi (h5 i (List.getElem?_eq_some_iff.1 hi).1)).2.2
  · exact absurd rfl h5
theorem cell_any (a b : Int) (w : World) : Calls Tryz.prog 18 #[.int .i64 a, .int .i64 b] w fun e w' => e = .returned (adr.C a b) ∧ Bw w w' := by
  go_enter Tryz.func18, Tryz.ntmps18
  go_wp2_with fail
  exact bodyPost_ret (results_cell_row (p := 4) (ty := 23) rfl _ _ w.heap.size 23 _ (0, 0) _ rfl (heap_alloc_new w _) Tryz.underlying23 rfl (by kernel_rfl)) rfl ⟨rfl, Bw.al w _⟩
theorem err_eql (t : Int) (W : World) : (binOp BinOp.eql 32 (ps.errV t) .nilIface).run Tryz.prog W = .ok (.bool (decide (t = 0))) W := by
  by_cases h : t = 0
  · subst h
    rw [ps.errV_zero]
    simp [binOp, go_sem]
    kernel_rfl
  · rw [ps.errV_some h]
    simp [binOp, go_sem, h]
    kernel_rfl
theorem err_guard (t : Int) (W : World) : (eqGuard BinOp.eql 32 (Operand.tmp 47) (Operand.const Value.nilIface) (ps.errV t) .nilIface).run Tryz.prog W = .ok () W := by
  by_cases h : t = 0
  · subst h
    rw [ps.errV_zero]
    simp [eqGuard, go_sem]
  · rw [ps.errV_some h]
    simp [eqGuard, go_sem]
/-- A sheet's beginning lies where it lies. -/
theorem fm_take {w : World} {p : Option Addr} {xs : List ps.Fl} (h : ps.FM w p xs) (j : Nat) : ps.FM w p (xs.take j) := by
  rcases h with h | ⟨g, o, rfl, h2, h3⟩
  · left; rw [h]; simp
  · right
    refine ⟨g, o, rfl, h2, fun t u hu => h3 t u ?_⟩
    have e : ps.flF xs = ps.flF (xs.take j) ++ ps.flF (xs.drop j) := by rw [← ps.flF_app, List.take_append_drop]
    rw [e, List.getElem?_append_left (List.getElem?_eq_some_iff.1 hu).1]
    exact hu
set_option maxRecDepth 1000000 in
set_option maxHeartbeats 8000000 in
theorem bookBack_any (p : Option Addr) (c : Nat) (xs : List ps.Fl) (cut : Int) (u : Value) (b : List UInt8) (w : World) (hx : ps.FM w p xs) (hc : xs.length ≤ c) (hb : BC w u b) (hbl : b.length ≤ 140737488355328) (hE : ps.EnvP w) :
    Calls Tryz.prog 5 #[.slice p xs.length c, .int .i64 cut, u] w fun e w' => e = .returned (.bool true) ∧ Bw w w' := by
  have HX : Hid (ps.FM w p xs) := hx
  have HB : Hid (BC w u b) := hb
  have HE : Hid (ps.EnvP w) := hE
  have HEn : Hid (∀ wx, Bw w wx → Calls Tryz.prog 9 #[.agg #[.int .i64 1, .int .i64 1, .string ⟨#[120]⟩]] wx fun e w' => ∃ g c, e = .returned (.tuple #[.slice (some ⟨g, 0, none⟩) 6 c, .nilIface]) ∧ w'.cell? ⟨g, 2, none⟩ = some (.int .u8 1) ∧ Bw wx w') := fun wx hbw => (entryP_any f0x wx (HE.out.below hbw HE.out.size)).mono fun e w' ⟨t, h1, h2⟩ => by
    have ht : t = 0 := (sck_zero h1).2 f0x_fine
    rcases h2 with ⟨h3, -⟩ | ⟨-, v, rfl, hv⟩
    · exact absurd ht h3
    · obtain ⟨p, c, rfl, ⟨h0, -⟩ | ⟨g, rfl, -⟩⟩ := hv.form
      · rw [enL_length] at h0; omega
      · exact ⟨g, c, by rw [enL_length]; rfl, hv.cell (i := 2) (x := 1) rfl, hv.below⟩
  obtain ⟨n, hn⟩ : ∃ n, xs.length = n := ⟨_, rfl⟩
  have HN : Hid (xs.length = n) := hn
  rw [hn] at hc ⊢
  clear hx hb hE hn
  go_enter Tryz.func5, Tryz.ntmps5
  go_upto_region 2 with (first | (go_at_call 18; refine (cell_any 1 1 _).mono ?_; rintro e w0 ⟨rfl, hb0⟩) | (go_at_call 9; refine (HEn.out _ hb0).mono ?_; rintro e w1 ⟨g1, c1, rfl, y2, hb1⟩))
  have HB1 : Hid (Bw w w1) := hb0.tr hb1
  clear hb0 hb1 HEn
  have HWr : Hid (Calls Tryz.prog 13 #[.slice p n c] w1 fun e w' => ∃ t, ps.Told xs t ∧ WrO w1 xs t e w') := by
    have := writeP_any p c xs w1 (fm_next HX.out HB1.out) (HE.out.below HB1.out HE.out.size)
    rw [HN.out] at this
    exact this
  go_upto_region 5 with (first | (go_at_call 13; refine HWr.out.mono ?_; rintro e w2 ⟨t, ht, hw⟩; obtain ⟨v2, rfl, HV2⟩ : ∃ v2, e = .returned (.tuple #[v2, ps.errV t]) ∧ Hid ((t = 0 → BC w2 v2 (bkS xs)) ∧ Bw w1 w2) := (by
    rcases hw with ⟨h0, rfl, hb⟩ | ⟨rfl, v, rfl, hv⟩
    · exact ⟨_, rfl, ⟨fun h => absurd h h0, hb⟩⟩
    · exact ⟨v, by rw [ps.errV_zero], ⟨fun _ => hv.bc, hv.below⟩⟩)))
  have HT : Hid (ps.Told xs t) := ht
  have HB2 : Hid (Bw w w2) := HB1.out.tr HV2.out.2
  clear ht hw HWr y2 HB1
  have hq : ∀ W, (binOp BinOp.eql 32 (ps.errV t) .nilIface).run Tryz.prog W = .ok (.bool (decide (t = 0))) W := err_eql t
  have hq2 := err_guard t
  go_upto_if 48 with fail
  go_cut [] (fun wx => Bw w wx)
  case first =>
    by_cases h0 : t = 0
    · have hd : decide (t = 0) = true := decide_eq_true h0
      rw [hd]
      obtain ⟨g1s, g2s, g3s, g4s⟩ := told_fine (h0 ▸ HT.out : ps.Told xs 0)
      have HG : Hid (ps.Srt xs ∧ ps.Ful xs ∧ (∀ x ∈ xs, Gd okT x) ∧ xs.length ≤ 200) := ⟨g1s, g2s, g3s, g4s⟩
      have hbo : opE [] (bkS xs) = (xs, (bkS xs).length) := book_open okT_le g1s g2s g3s g4s
      have HLb : Hid ((bkS xs).length ≤ 41000) := by
        have := bkS_le (xs := xs) fun x hx => okT_le _ (g3s x hx).2.2
        show _ ≤ _
        omega
      have hBC2 : BC w2 v2 (bkS xs) := HV2.out.1 h0
      obtain ⟨-, p2, c2, rfl, hc2⟩ := id hBC2
      have HBC2 : Hid (BC w2 (.slice p2 (bkS xs).length c2) (bkS xs)) := hBC2
      have HOp : Hid (Calls Tryz.prog 15 #[.slice p2 (bkS xs).length c2] w2 fun e w' => (∃ q cq, e = .returned (.tuple #[.slice q n cq, .int .i64 ((bkS xs).length : Int)]) ∧ ps.FM w' q xs) ∧ Bw w2 w') := by
        have := bc_open hBC2 (by have := HLb.out; omega) (HE.out.below HB2.out HE.out.size)
        unfold OpO at this
        rw [hbo] at this
        dsimp only at this
        rw [HN.out] at this
        exact this
      generalize hL : (bkS xs).length = L at *
      have HL : Hid ((bkS xs).length = L) := hL
      have hL9 : (L : Int) ≤ 41000 := by have := HLb.out; omega
      have hL0 : (0 : Int) ≤ (L : Int) := by omega
      clear hbo hBC2 HV2 g1s g2s g3s g4s hL hq hq2 hd h0
      go_upto_region 7 with (first | (go_at_call 15; refine HOp.out.mono ?_; rintro e w3 ⟨⟨q3, cq3, rfl, hfm3⟩, hb3⟩))
      have HB3 : Hid (Bw w w3) := HB2.out.tr hb3
      have HSh : Hid (Calls Tryz.prog 16 #[.slice q3 n cq3, .slice p n c] w3 fun e w' => e = .returned (.bool true) ∧ Bw w3 w') := by
        have := rsheets_fm xs q3 p cq3 c w3 hfm3 (fm_next HX.out HB3.out) (by have := HG.out.2.2.2; omega)
        rw [HN.out] at this
        exact this
      have HBC3 : Hid (∀ wx, Bw w3 wx → BC wx (.slice p2 L c2) (bkS xs)) := fun wx hb => HBC2.out.next (hb3.tr hb)
      clear hfm3 hb3 HBC2 HOp
      go_upto_region 10 with (first | (go_at_call 16; refine HSh.out.mono ?_; rintro e w4 ⟨rfl, hb4⟩))
      have HB4 : Hid (Bw w w4 ∧ Bw w3 w4) := ⟨HB3.out.tr hb4, hb4⟩
      clear hb4 HSh
      by_cases hcut : 0 ≤ cut ∧ cut ≤ (L : Int)
      · obtain ⟨k, rfl⟩ : ∃ k : Nat, cut = (k : Int) := ⟨cut.toNat, by omega⟩
        have hk1 : (k : Int) ≤ (L : Int) := hcut.2
        have hk0 : (0 : Int) ≤ (k : Int) := hcut.1
        have hk2 : (k : Int) ≤ (c2 : Int) := by omega
        obtain ⟨j, hj1, hj2, hj3⟩ := book_cut (ok := okT) okT_le HG.out.1 HG.out.2.1 HG.out.2.2.1 HG.out.2.2.2 k (by rw [HL.out]; omega)
        have hjl : (xs.take j).length = j := by rw [List.length_take]; omega
        obtain ⟨m, hm⟩ : ∃ m, (bkS (xs.take j)).length = m := ⟨_, rfl⟩
        have hm9 : (m : Int) ≤ (k : Int) := by omega
        have hjn : (j : Int) ≤ (n : Int) := by rw [HN.out] at hj1; omega
        have hj0 : (0 : Int) ≤ (j : Int) := by omega
        have hjc : (j : Int) ≤ (c : Int) := by omega
        have HOp2 : Hid (Calls Tryz.prog 15 #[.slice p2 k c2] w4 fun e w' => (∃ q cq, e = .returned (.tuple #[.slice q j cq, .int .i64 (m : Int)]) ∧ ps.FM w' q (xs.take j)) ∧ Bw w4 w') := by
          have hB := HBC3.out w4 HB4.out.2
          rw [← HL.out] at hB
          have := bc_open (bc_take hB k (by rw [HL.out]; omega)) (by rw [List.length_take]; have := HLb.out; omega) (HE.out.below HB4.out.1 HE.out.size)
          have e : opE [] ((bkS xs).take k) = (xs.take j, (bkS (xs.take j)).length) := hj2
          unfold OpO at this
          rw [e] at this
          dsimp only at this
          rw [hjl, hm] at this
          exact this
        have HJL : Hid ((xs.take j).length = j ∧ j ≤ 200) := ⟨hjl, by have := HG.out.2.2.2; omega⟩
        clear hj1 hj2 hj3 hm hjl hcut
        go_upto_region 14 with (first | (go_at_call 15; refine HOp2.out.mono ?_; rintro e w5 ⟨⟨q5, cq5, rfl, hfm5⟩, hb5⟩))
        have HB5 : Hid (Bw w w5) := HB4.out.1.tr hb5
        have HSh2 : Hid (Calls Tryz.prog 16 #[.slice q5 j cq5, .slice p j c] w5 fun e w' => e = .returned (.bool true) ∧ Bw w5 w') := by
          have := rsheets_fm (xs.take j) q5 p cq5 c w5 hfm5 (fm_take (fm_next HX.out HB5.out) j) (by have := HJL.out; omega)
          rw [HJL.out.1] at this
          exact this
        clear hfm5 hb5 HOp2
        go_wp2_with (first | (go_at_call 16; refine HSh2.out.mono ?_; rintro e w6 ⟨rfl, hb6⟩))
        go_meet
        case rel => exact HB5.out.tr hb6
      · by_cases hc0 : 0 ≤ cut
        · have hcn : ¬ cut ≤ (L : Int) := fun h => hcut ⟨hc0, h⟩
          clear hcut
          go_wp2_with fail
          go_meet
          case rel => exact HB4.out.1
        · clear hcut
          go_wp2_with fail
          go_meet
          case rel => exact HB4.out.1
    · have hd : decide (t = 0) = false := decide_eq_false h0
      rw [hd]
      clear h0 hq hq2
      go_wp2_with fail
      go_meet
      case rel => exact HB2.out
  case rest =>
  have HBr : Hid (Bw w wc) := hcut
  clear hcut hq hq2 HT HB2 HV2
  obtain ⟨hp1, hp2, hp3⟩ := book_pack (ok := okT) okT_le b
  have hT := (told_open b).fine.len
  obtain ⟨X, hX⟩ : ∃ X, (opE [] b).1 = X := ⟨_, rfl⟩
  obtain ⟨m, hm⟩ : ∃ m, (opE [] b).2 = m := ⟨_, rfl⟩
  have hX' : (opB okT b).1 = X := hX
  have hm' : (opB okT b).2 = m := hm
  rw [hX'] at hp1 hp2
  rw [hm'] at hp2 hp3
  rw [hX] at hT
  obtain ⟨K, hK⟩ : ∃ K, (bkS X).length = K := ⟨_, rfl⟩
  obtain ⟨nb, hnb⟩ : ∃ nb, b.length = nb := ⟨_, rfl⟩
  have HBo : Hid (∀ wx, Bw w wx → Calls Tryz.prog 15 #[u] wx fun e w' => (∃ q cq, e = .returned (.tuple #[.slice q X.length cq, .int .i64 (m : Int)]) ∧ ps.FM w' q X) ∧ Bw wx w') := fun wx hb => by
    have := bc_open (HB.out.next hb) hbl (HE.out.below hb HE.out.size)
    unfold OpO at this
    rw [hX, hm] at this
    exact this
  have HBp : Hid (∀ wx, Bw w wx → Calls Tryz.prog 17 #[u] wx fun e w' => ∃ v, e = .returned (.tuple #[v, .nilIface]) ∧ BC w' v (bkS X) ∧ Bw wx w') := fun wx hb => by
    have := pack_any u b wx (HB.out.next hb) hbl (HE.out.below hb HE.out.size)
    rw [hX] at this
    exact this
  have HBq : Hid (∀ wx v, Bw w wx → BC wx v (bkS X) → Calls Tryz.prog 15 #[v] wx fun e w' => (∃ q cq, e = .returned (.tuple #[.slice q X.length cq, .int .i64 (K : Int)]) ∧ ps.FM w' q X) ∧ Bw wx w') := fun wx v hb hv => by
    have := bc_open hv (by omega) (HE.out.below hb HE.out.size)
    have e : opE [] (bkS X) = (X, (bkS X).length) := hp1
    unfold OpO at this
    rw [e] at this
    dsimp only at this
    rw [hK] at this
    exact this
  obtain ⟨-, pb, cb, hu, hcb⟩ := HB.out
  rw [hnb] at hu hp3
  rw [hK] at hp2
  have HKl : Hid ((bkS X).length = K) := hK
  have hKm : (K : Int) ≤ (m : Int) := by omega
  have hmb : (m : Int) ≤ (nb : Int) := by omega
  subst hu
  clear hp1 hp2 hp3 hX hm hX' hm' hK HB hcb
  apply_assumption
  go_upto_region 18 with (first | (go_at_call 15; refine (HBo.out _ HBr.out).mono ?_; rintro e w3 ⟨⟨q3, c3, rfl, hfm3⟩, hb3⟩))
  have HB3 : Hid (Bw w w3) := HBr.out.tr hb3
  have HF3 : Hid (ps.FM w3 q3 X) := hfm3
  clear hfm3 hb3 HBo HBr
  go_upto_region 19 with (first | (go_at_call 17; refine (HBp.out _ HB3.out).mono ?_; rintro e w4 ⟨v4, rfl, hv4, hb4⟩))
  have HB4 : Hid (Bw w w4) := HB3.out.tr hb4
  have HF4 : Hid (ps.FM w4 q3 X) := fm_next HF3.out hb4
  obtain ⟨-, p4, c4, rfl, -⟩ := id hv4
  have HV4 : Hid (BC w4 (.slice p4 (bkS X).length c4) (bkS X)) := hv4
  rw [HKl.out] at HV4 ⊢
  clear hv4 hb4 HF3 HB3 HBp
  go_upto_region 20 with (first | (go_at_call 15; refine (HBq.out _ _ HB4.out HV4.out).mono ?_; rintro e w5 ⟨⟨q5, c5, rfl, hfm5⟩, hb5⟩))
  have HB5 : Hid (Bw w w5) := HB4.out.tr hb5
  have HSh3 : Hid (Calls Tryz.prog 16 #[.slice q3 X.length c3, .slice q5 X.length c5] w5 fun e w' => e = .returned (.bool true) ∧ Bw w5 w') := rsheets_fm X q3 q5 c3 c5 w5 (fm_next HF4.out hb5) hfm5 (by omega)
  clear hfm5 hb5 HF4 HBq HV4
  go_wp2_with (first | (go_at_call 16; refine HSh3.out.mono ?_; rintro e w6 ⟨rfl, hb6⟩))
  go_ret
  exact ⟨rfl, HB5.out.tr hb6⟩
end Go.Proofs.YtokfijkhflfioaaGreatDoor.fw
