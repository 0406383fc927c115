
/- The law FindWhole. Conditions: what the package variables hold. -/
import Derived.Test.YtlaeoofjoofbcaaGreatDoorFnd
namespace Go.Proofs.YtlaeoofjoofbcaaGreatDoor.fw
open Go.RowKit Go.Sort
theorem least {P : Nat → Prop} (n : Nat) : P n → ∃ i, P i ∧ ∀ j, j < i → ¬ P j := by
  induction n using Nat.strongRecOn with
  | _ n ih =>
    intro h
    by_cases h2 : ∃ m, m < n ∧ P m
    · obtain ⟨m, hm, hp⟩ := h2
      exact ih m hm hp
    · exact ⟨n, h, fun j hj hp => h2 ⟨j, hj, hp⟩⟩
/-- Something is told of every list. -/
theorem told_ex (xs : List ps.Fl) : ∃ t, ps.Told xs t := by
  by_cases h : 200 < xs.length
  · exact ⟨4, .inl ⟨h, rfl⟩⟩
  · by_cases h2 : ∀ i, i < xs.length → ps.cd xs i = 0
    · exact ⟨0, .inr ⟨by omega, .inl ⟨rfl, h2⟩⟩⟩
    · have h3 : ∃ i, i < xs.length ∧ ps.cd xs i ≠ 0 := by
        refine Classical.byContradiction fun hn => h2 fun i hi => Classical.byContradiction fun hc => hn ⟨i, hi, hc⟩
      obtain ⟨n, hn⟩ := h3
      obtain ⟨i, ⟨hi, hc⟩, hl⟩ := least (P := fun i => i < xs.length ∧ ps.cd xs i ≠ 0) n hn
      refine ⟨ps.cd xs i, .inr ⟨by omega, .inr ⟨hc, i, hi, rfl, fun j hj => ?_⟩⟩⟩
      exact Classical.byContradiction fun h4 => hl j hj ⟨by omega, h4⟩
/-- A cell of a sheet is found if and only if its own text has the part. -/
theorem has_fnd {xs : List ps.Fl} (hs : ps.Srt xs) (part : ByteArray) (wh : Bool) {i : Nat} {x : ps.Fl} (hx : xs[i]? = some x) : hasB (fnd part wh xs) x.c x.r = decide (0 < plc x.s part wh) := by
  rw [Bool.eq_iff_iff, decide_eq_true_eq]
  unfold hasB fnd
  rw [List.any_eq_true]
  constructor
  · rintro ⟨y, hy, h⟩
    rw [List.mem_map] at hy
    obtain ⟨f, hf, rfl⟩ := hy
    rw [List.mem_filter] at hf
    rw [Bool.and_eq_true, decide_eq_true_eq, decide_eq_true_eq] at h
    obtain ⟨a, ha⟩ := List.getElem?_of_mem hf.1
    have e : a = i := by
      rcases Nat.lt_trichotomy a i with h1 | h1 | h1
      · have h2 := ps.srt_get hs ha hx h1
        rw [ps.lt_iff] at h2
        dsimp only at h
        omega
      · exact h1
      · have h2 := ps.srt_get hs hx ha h1
        rw [ps.lt_iff] at h2
        dsimp only at h
        omega
    subst e
    rw [hx] at ha
    obtain rfl := Option.some.inj ha
    exact of_decide_eq_true hf.2
  · intro h
    refine ⟨(x.c, x.r), List.mem_map.2 ⟨x, List.mem_filter.2 ⟨List.mem_of_getElem? hx, decide_eq_true h⟩, rfl⟩, ?_⟩
    simp
theorem size_eq_list (s : ByteArray) : s.toList.length = s.size := size_list s
theorem plc_whole (s p : ByteArray) (hp : 1 ≤ p.size) : decide (0 < plc s p true) = (decide (0 < plc s p false) && decide (s.size = p.size)) := by
  have e1 : plc s p true = if s = p then 1 else 0 := by unfold plc; rw [if_pos rfl]
  have e2 : plc s p false = (cntL p.toList [] s.toList).1 := by unfold plc; rw [if_neg (by simp)]
  rw [e1, e2]
  by_cases h : s = p
  · subst h
    rw [cnt_self (ne_nil hp)]
    simp
  · rw [if_neg h]
    by_cases h2 : s.size = p.size
    · have h3 : ¬ 0 < (cntL p.toList [] s.toList).1 := fun hc => by
        have := cnt_whole (ne_nil hp) [] (by rw [size_list, size_list, h2]) hc
        have hq := (Lib.bytes_beq_false_iff s p).2 h
        rw [this] at hq
        simp at hq
      simp [h3]
    · simp [h2]
theorem plc_ab : fnd ⟨#[98]⟩ false [⟨1, 1, ⟨#[97, 98]⟩⟩] = [(1, 1)] := by
  have e1 : (⟨#[98]⟩ : ByteArray).toList = [98] := by rw [ByteArray.toList_eq]
  have e2 : (⟨#[97, 98]⟩ : ByteArray).toList = [97, 98] := by rw [ByteArray.toList_eq]
  have e : plc ⟨#[97, 98]⟩ ⟨#[98]⟩ false = 1 := by
    unfold plc
    rw [if_neg (by simp), e1, e2, cnt_no (by decide), cnt_yes (by decide) (by decide)]
    simp [cnt_nil]
  unfold fnd
  simp [e]
theorem told_ab : ps.Told [⟨1, 1, ⟨#[97, 98]⟩⟩] 0 := by
  refine .inr ⟨by simp, .inl ⟨rfl, fun i hi => ?_⟩⟩
  have : i = 0 := by simp at hi; exact hi
  subst this
  have h1 : ([⟨1, 1, ⟨#[97, 98]⟩⟩] : List ps.Fl)[0]? = some ⟨1, 1, ⟨#[97, 98]⟩⟩ := rfl
  rw [ps.cd_text h1 (by decide) rfl]
  exact ps.ckT_const (by decide) (by decide) (by decide +kernel)
theorem FndO.bad {w : World} {xs : List ps.Fl} {part : ByteArray} {wh : Bool} {t : Int} {e : Ending} {w' : World} (h : FndO w xs part wh t e w') (hb : t ≠ 0 ∨ part.size = 0) : ∃ z, e = .returned (.tuple #[.slice none 0 0, .iface 52 (.int .i64 z)]) ∧ Bw w w' := by
  rcases h with ⟨h1, h2, h3⟩ | ⟨-, -, h2, h3⟩ | ⟨h1, h2, -⟩
  · exact ⟨t, by rw [h2, ps.errV_some h1], h3⟩
  · exact ⟨2, h2, h3⟩
  · rcases hb with h | h
    · exact absurd h1 h
    · omega
theorem FndO.good {w : World} {xs : List ps.Fl} {part : ByteArray} {wh : Bool} {t : Int} {e : Ending} {w' : World} (h : FndO w xs part wh t e w') (hb : ¬ (t ≠ 0 ∨ part.size = 0)) : ∃ v, e = .returned (.tuple #[v, .nilIface]) ∧ RV cL w v (fnd part wh xs) w' := by
  rcases h with ⟨h1, -⟩ | ⟨-, h1, -⟩ | ⟨-, -, h1⟩
  · exact absurd (.inl h1) hb
  · exact absurd (.inr h1) hb
  · exact h1
set_option maxRecDepth 1000000 in
set_option maxHeartbeats 8000000 in
theorem findWhole_any (p : Option Addr) (c : Nat) (xs : List ps.Fl) (part : ByteArray) (w : World) (hx : ps.FM w p xs) (hE : ps.EnvP w) (hm : MX w) :
    Calls Tryz.prog 5 #[.slice p xs.length c, .string part] w fun e w' => e = .returned (.bool true) ∧ Bw w w' := by
  obtain ⟨t, ht⟩ := told_ex xs
  have HX : Hid (ps.FM w p xs) := hx
  have HE : Hid (ps.EnvP w) := hE
  have HM : Hid (MX w) := hm
  have HT : Hid (ps.Told xs t) := ht
  have HFI : Hid (∀ wx wh, Bw w wx → Calls Tryz.prog 8 #[.slice p xs.length c, .string part, .bool wh] wx fun e w' => FndO wx xs part wh t e w') := fun wx wh hb => find_any p c xs part wh wx (hx.below hb) (hE.below hb hE.size) (hm.next hb) t ht
  have HF0 : Hid (∀ wx, Bw w wx → Calls Tryz.prog 8 #[.slice (some ⟨wx.heap.size, 0, none⟩) 1 1, .string ⟨#[98]⟩, .bool false] (wx.alloc (.cells #[.int .i64 1, .int .i64 1, .string ⟨#[97, 98]⟩] 30)) fun e w' => ∃ v k, e = .returned (.tuple #[.slice v 1 k, .nilIface]) ∧ Bw w w') := by
    intro wx hb
    have hb2 := hb.tr (Bw.al wx (.cells #[.int .i64 1, .int .i64 1, .string ⟨#[97, 98]⟩] 30))
    refine (find_any (some ⟨wx.heap.size, 0, none⟩) 1 [⟨1, 1, ⟨#[97, 98]⟩⟩] ⟨#[98]⟩ false _ (ps.fm_new wx ⟨1, 1, ⟨#[97, 98]⟩⟩) (hE.below hb2 hE.size) (hm.next hb2) 0 told_ab).mono ?_
    rintro e w' (⟨h, -⟩ | ⟨-, h, -⟩ | ⟨-, -, v, rfl, hv⟩)
    · exact absurd rfl h
    · exact absurd h (by decide)
    · rw [plc_ab] at hv
      obtain ⟨q, k, e, -⟩ := hv.form
      exact ⟨q, k, by rw [e]; rfl, hb2.tr hv.below⟩
  clear hx hE hm ht
  go_enter Tryz.func5, Tryz.ntmps5
  go_wp2_with fail
  refine (at_any 1 1 w).mono ?_
  rintro e w1 ⟨rfl, hb1⟩
  have HB1 : Hid (Bw w w1) := hb1
  clear hb1
  dsimp only
  go_wp2_with fail
  refine (HF0.out w1 HB1.out).mono ?_
  rintro e w2 ⟨v, k, rfl, hb2⟩
  have HB2 : Hid (Bw w w2) := hb2
  clear hb2 HF0 HB1
  dsimp only
  go_wp2_with fail
  refine (HFI.out w2 true HB2.out).mono ?_
  intro e w3 h3
  by_cases hbad : t ≠ 0 ∨ part.size = 0
  · obtain ⟨z, rfl, hb3⟩ := h3.bad hbad
    have HB3 : Hid (Bw w w3) := HB2.out.tr hb3
    have HBAD : Hid (t ≠ 0 ∨ part.size = 0) := hbad
    clear hbad hb3 h3
    dsimp only
    go_wp2_with fail
    refine (HFI.out w3 false HB3.out).mono ?_
    intro e w4 h4
    obtain ⟨z', rfl, hb4⟩ := h4.bad HBAD.out
    have HB4 : Hid (Bw w w4) := HB3.out.tr hb4
    clear hb4 h4
    dsimp only
    go_wp2_with fail
    go_ret
    exact ⟨rfl, HB4⟩
  · obtain ⟨va, rfl, hva⟩ := h3.good hbad
    have HA3 : Hid (RV cL w2 va (fnd part true xs) w3) := hva
    have HB3 : Hid (Bw w w3) := HB2.out.tr hva.below
    have HGD : Hid (¬ (t ≠ 0 ∨ part.size = 0)) := hbad
    clear hbad hva h3
    dsimp only
    go_wp2_with fail
    refine (HFI.out w3 false HB3.out).mono ?_
    intro e w4 h4
    obtain ⟨vb, rfl, hvb⟩ := h4.good HGD.out
    have HA4 : Hid (RV cL w2 va (fnd part true xs) w4) := HA3.out.next hvb.below
    have HB4 : Hid (RV cL w3 vb (fnd part false xs) w4) := hvb
    have HW4 : Hid (Bw w w4) := HB3.out.tr hvb.below
    clear hvb h4 HA3 HB3 HB2 HFI
    dsimp only
    have HFN : Hid (xs.length ≤ 200 ∧ ps.Srt xs) := by
      have ht0 : t = 0 := Classical.byContradiction fun h => HGD.out (.inl h)
      have h0 := HT.out
      rw [ht0] at h0
      have hf := ps.Told.fine h0
      rcases h0 with ⟨-, h⟩ | ⟨h, -⟩
      · exact absurd h (by decide)
      · exact ⟨h, hf.srt⟩
    have HP1 : Hid (1 ≤ part.size) := by
      show 1 ≤ _
      have := HGD.out
      omega
    clear HT HGD HE HM
    go_upto_block 0 with fail
    go_cut [] (fun wx => Hid (Bw w wx))
    case first =>
      go_wp2_with fail
      go_loopw [11] (fun s11 wr => ∃ i : Nat, s11 = .int .i64 (i : Int) ∧ i ≤ xs.length ∧ Hid (Bw w4 wr)) (fun s11 _ => xs.length - (intOf s11).toNat)
      case atStart => exact ⟨0, rfl, Nat.zero_le _, Below.refl _ _⟩
      case round =>
        obtain ⟨i, rfl, hi, HR⟩ := hrel
        by_cases hlt : i < xs.length
        · have hlt' : (i : Int) < (xs.length : Int) := by omega
          have hi0 : (0 : Int) ≤ (i : Int) := by omega
          have hi9 : (i : Int) < 200 := by have := HFN.out.1; omega
          have hxx : xs[i]? = some xs[i] := List.getElem?_eq_getElem hlt
          obtain ⟨x, ex⟩ : ∃ x, xs[i] = x := ⟨_, rfl⟩
          rw [ex] at hxx
          have HX2 : Hid (∀ wy, Bw wr wy → ps.FM wy p xs) := fun wy hb => HX.out.below (HW4.out.tr (HR.out.tr hb))
          obtain ⟨gx, ox, rfl, -⟩ := ps.FM.at (HX2.out wr (Below.refl _ _)) hxx
          have HCL : Hid (∀ wy, Bw wr wy → wy.cell? ⟨gx, ox + i * 3, none⟩ = some (.int .i64 x.c) ∧ wy.cell? ⟨gx, ox + i * 3 + 1, none⟩ = some (.int .i64 x.r) ∧ wy.cell? ⟨gx, ox + i * 3 + 2, none⟩ = some (.string x.s)) := fun wy hb => ps.FM.cells (HX2.out wy hb) hxx
          have HHA : Hid (∀ wy, Bw wr wy → Calls Tryz.prog 15 #[va, .agg #[.int .i64 x.c, .int .i64 x.r]] wy fun e w' => e = .returned (.bool (decide (0 < plc x.s part true))) ∧ Bw wy w') := fun wy hb => by
            have h := rhas_any _ va w2 wy (HA4.out.next (HR.out.tr hb)) (by have h1 := fnd_len part true xs; have h2 := HFN.out.1; omega) x.c x.r
            rw [has_fnd HFN.out.2 part true hxx] at h
            exact h
          have HHB : Hid (∀ wy, Bw wr wy → Calls Tryz.prog 15 #[vb, .agg #[.int .i64 x.c, .int .i64 x.r]] wy fun e w' => e = .returned (.bool (decide (0 < plc x.s part false))) ∧ Bw wy w') := fun wy hb => by
            have h := rhas_any _ vb w3 wy (HB4.out.next (HR.out.tr hb)) (by have h1 := fnd_len part false xs; have h2 := HFN.out.1; omega) x.c x.r
            rw [has_fnd HFN.out.2 part false hxx] at h
            exact h
          have HPW := plc_whole x.s part HP1.out
          rw [HPW] at HHA
          generalize decide (0 < plc x.s part false) = y at *
          clear hxx ex HPW HX2
          obtain ⟨xc, xr, xs2⟩ := x
          dsimp only at HCL HHA HHB
          obtain ⟨z, ez⟩ : ∃ z, decide (xs2.size = part.size) = z := ⟨_, rfl⟩
          rw [ez] at HHA
          have hzz : (((xs2.size : Nat) : Int) == ((part.size : Nat) : Int)) = z := by
            rw [← ez, Bool.eq_iff_iff, beq_iff_eq, decide_eq_true_eq]
            omega
          clear ez
          obtain ⟨c0, c1, c2⟩ := HCL.out wr (Below.refl _ _)
          go_wp2_with fail
          refine (HHA.out _ (Below.refl _ _)).mono ?_
          rintro e w5 ⟨rfl, hb5⟩
          have HR5 : Hid (Bw wr w5) := hb5
          clear hb5 c0 c1 c2 HHA
          obtain ⟨c0, c1, c2⟩ := HCL.out w5 HR5.out
          dsimp only
          go_wp2_with fail
          refine (HHB.out _ HR5.out).mono ?_
          rintro e w6 ⟨rfl, hb6⟩
          have HR6 : Hid (Bw wr w6) := HR5.out.tr hb6
          clear hb6 c0 c1 c2 HHB HR5
          obtain ⟨c0, c1, c2⟩ := HCL.out w6 HR6.out
          dsimp only
          have HR7 : Hid (Bw w4 w6) := HR.out.tr HR6.out
          clear HCL HR HR6
          cases y
          · go_wp2_with fail
            exact ⟨⟨i + 1, rfl, hlt, HR7⟩, by simp [intOf]; omega⟩
          · cases z
            · have hz2 : ¬ ((xs2.size : Nat) : Int) = ((part.size : Nat) : Int) := by simpa using hzz
              go_wp2_with fail
              exact ⟨⟨i + 1, rfl, hlt, HR7⟩, by simp [intOf]; omega⟩
            · have hz2 : ((xs2.size : Nat) : Int) = ((part.size : Nat) : Int) := by simpa using hzz
              go_wp2_with fail
              exact ⟨⟨i + 1, rfl, hlt, HR7⟩, by simp [intOf]; omega⟩
        · have hlt' : ¬ (i : Int) < (xs.length : Int) := by omega
          go_wp2_with fail
          go_meet
          case rel => exact HW4.out.tr HR.out
    case rest =>
    have HC := hcut
    clear hcut
    apply_assumption
    go_wp2_with fail
    go_ret
    exact ⟨rfl, HC.out⟩
end Go.Proofs.YtlaeoofjoofbcaaGreatDoor.fw
