
/- The law BookEntries, by contracts of the document's In, Text, Check and of sccsame.Error. Conditions: as each theorem says. -/
import Derived.Test.YtokfijkhflfioaaGreatDoorBki
namespace Go.Proofs.YtokfijkhflfioaaGreatDoor.fw
open Go.RowKit Go.Sort
def Lif (t : Int) (l : List UInt8) : List UInt8 := if t = 0 then l else []
theorem bm_nil (w : World) : BM w (.slice none 0 0) [] := (BV.nil w).bm
theorem entry_two (f : ps.Fl) (w : World) (hE : ps.EnvP w) (E : Int) (hEe : E = if adr.isC f.c f.r = true then ftx f.s else 1) :
    Calls Tryz.prog 9 #[FVv f] w fun e w' => ∃ v, e = .returned (.tuple #[v, ps.errV E]) ∧ BM w' v (Lif E (enL f.c f.r f.s)) ∧ Bw w w' := by
  refine (entryP_any f w hE).mono ?_
  rintro e w' ⟨t, h1, h2⟩
  obtain rfl : t = E := (sck_is h1).trans hEe.symm
  rcases h2 with ⟨h0, rfl, hb⟩ | ⟨rfl, v, rfl, hv⟩
  · exact ⟨_, rfl, by unfold Lif; rw [if_neg h0]; exact bm_nil _, hb⟩
  · exact ⟨v, by rw [ps.errV_zero], by unfold Lif; rw [if_pos rfl]; exact hv.bm, hv.below⟩
theorem write_two (p : Option Addr) (c : Nat) (xs : List ps.Fl) (w : World) (hx : ps.FM w p xs) (hE : ps.EnvP w) (t : Int) (ht : ps.Told xs t) :
    Calls Tryz.prog 13 #[.slice p xs.length c] w fun e w' => ∃ v, e = .returned (.tuple #[v, ps.errV t]) ∧ BM w' v (Lif t (bkS xs)) ∧ Bw w w' := by
  refine (writeP_any p c xs w hx hE).mono ?_
  rintro e w' ⟨t', h1, h2⟩
  obtain rfl := ht.one h1
  rcases h2 with ⟨h0, rfl, hb⟩ | ⟨rfl, v, rfl, hv⟩
  · exact ⟨_, rfl, by unfold Lif; rw [if_neg h0]; exact bm_nil _, hb⟩
  · exact ⟨v, by rw [ps.errV_zero], by unfold Lif; rw [if_pos rfl]; exact hv.bm, hv.below⟩
theorem box3_at {w wx : World} {a b c : Value} {t : TypeId} (h : Bw (w.alloc (.cells #[a, b, c] t)) wx) : wx.cell? ⟨w.heap.size, 0, none⟩ = some a ∧ wx.cell? ⟨w.heap.size, 1, none⟩ = some b ∧ wx.cell? ⟨w.heap.size, 2, none⟩ = some c :=
  cells3q ((h.block _ (by simp)).trans (heap_alloc_new w _))
set_option maxRecDepth 1000000 in
set_option maxHeartbeats 8000000 in
theorem bookEntries_any (f : ps.Fl) (p : Option Addr) (c : Nat) (xs : List ps.Fl) (w : World) (hx : ps.FM w p xs) (hE : ps.EnvP w)
    (hIn : ∀ c r wx, Calls Tryz.prog 6 #[adr.C c r] wx fun e w' => e = .returned (.bool (adr.isC c r)) ∧ Bw wx w')
    (hTx : ∀ s wx, Calls Tryz.prog 7 #[.string s] wx fun e w' => e = .returned (.int .i64 (ftx s)) ∧ Bw wx w')
    (hCk : ∀ wx, Bw w wx → Calls Tryz.prog 12 #[.slice p xs.length c] wx fun e w' => (∃ t, e = .returned (.int .i64 t) ∧ ps.Told xs t) ∧ Bw wx w')
    (hS : ∀ wx e, Bw w wx → Calls Tryz.prog 10 #[ps.errV e, .int .i64 e] wx fun r w' => r = .returned (.bool true) ∧ Bw wx w') :
    Calls Tryz.prog 3 #[FVv f, .slice p xs.length c] w fun e w' => e = .returned (.bool true) ∧ Bw w w' := by
  obtain ⟨fc, fr, fs⟩ := f
  obtain ⟨E, hEe⟩ : ∃ E, E = if adr.isC fc fr = true then ftx fs else 1 := ⟨_, rfl⟩
  have HEe : Hid (E = if adr.isC fc fr = true then ftx fs else 1) := hEe
  have HX : Hid (ps.FM w p xs) := hx
  have HE : Hid (ps.EnvP w) := hE
  have HIn : Hid (∀ c r wx, Calls Tryz.prog 6 #[adr.C c r] wx fun e w' => e = .returned (.bool (adr.isC c r)) ∧ Bw wx w') := hIn
  have HTx : Hid (∀ s wx, Calls Tryz.prog 7 #[.string s] wx fun e w' => e = .returned (.int .i64 (ftx s)) ∧ Bw wx w') := hTx
  have HCk : Hid (∀ wx, Bw w wx → Calls Tryz.prog 12 #[.slice p xs.length c] wx fun e w' => (∃ t, e = .returned (.int .i64 t) ∧ ps.Told xs t) ∧ Bw wx w') := hCk
  have HS : Hid (∀ wx e, Bw w wx → Calls Tryz.prog 10 #[ps.errV e, .int .i64 e] wx fun r w' => r = .returned (.bool true) ∧ Bw wx w') := hS
  clear hx hE hIn hTx hCk hS hEe
  obtain ⟨n, hn⟩ : ∃ n, xs.length = n := ⟨_, rfl⟩
  have HN : Hid (xs.length = n) := hn
  rw [hn] at HCk ⊢
  clear hn
  dsimp only [FVv]
  have HB0 : Hid (Bw w (w.alloc (.cells #[.int .i64 fc, .int .i64 fr, .string fs] 25))) := Bw.al w _
  obtain ⟨y0, y1, y2⟩ := box3_at (Below.refl _ (w.alloc (.cells #[.int .i64 fc, .int .i64 fr, .string fs] 25)))
  go_enter Tryz.func3, Tryz.ntmps3
  go_upto_if 17 with (first | (go_at_call 6; refine (HIn.out fc fr _).mono ?_; rintro e w1 ⟨rfl, hb1⟩))
  have HB1 : Hid (Bw (w.alloc (.cells #[.int .i64 fc, .int .i64 fr, .string fs] 25)) w1) := hb1
  clear y0 y1 y2 hb1 HIn
  obtain ⟨W0, hW0⟩ : ∃ W0, W0 = w.alloc (.cells #[.int .i64 fc, .int .i64 fr, .string fs] 25) := ⟨_, rfl⟩
  have HAt : Hid (∀ wx, Bw W0 wx → wx.cell? ⟨w.heap.size, 0, none⟩ = some (.int .i64 fc) ∧ wx.cell? ⟨w.heap.size, 1, none⟩ = some (.int .i64 fr) ∧ wx.cell? ⟨w.heap.size, 2, none⟩ = some (.string fs)) := fun wx hb => by
    subst hW0
    exact box3_at hb
  rw [← hW0] at HB0 HB1
  clear hW0
  obtain ⟨y0, y1, y2⟩ := HAt.out w1 HB1.out
  obtain ⟨b, hb⟩ : ∃ b, adr.isC fc fr = b := ⟨_, rfl⟩
  rw [hb]
  have HEb : Hid (E = if b = true then ftx fs else 1) := by
    have := HEe.out
    rw [hb] at this
    exact this
  clear hb
  go_cut [5] (fun s5 wx => s5 = .int .i64 E ∧ Bw W0 wx)
  case first =>
    cases b with
    | true =>
      go_wp2_with (first | (go_at_call 7; refine (HTx.out fs _).mono ?_; rintro e w2 ⟨rfl, hb2⟩))
      go_meet
      case rel => exact ⟨by rw [HEb.out]; rfl, HB1.out.tr hb2⟩
    | false =>
      go_wp2_with fail
      go_meet
      case rel => exact ⟨by rw [HEb.out]; rfl, HB1.out⟩
  case rest =>
  obtain ⟨rfl, hbc⟩ := hcut
  have HBc : Hid (Bw W0 wc) := hbc
  clear y0 y1 y2 hbc HB1
  obtain ⟨y0, y1, y2⟩ := HAt.out wc HBc.out
  go_upto_if 22 with fail
  have HL : Hid (E = 0 → fs.size ≤ 200) := fun h => by
    have h1 := HEe.out
    rw [h] at h1
    split at h1
    · exact ftx_le h1.symm
    · cases h1
  go_cut [7] (fun s7 wx => Bw W0 wx ∧ BM wx s7 (Lif E (enL fc fr fs)))
  case first =>
    by_cases h0 : E = 0
    · have HEn : Hid (Calls Tryz.prog 8 #[.agg #[.int .i64 fc, .int .i64 fr, .string fs]] wc fun e w' => EnO wc fc fr fs e w') := rentry_any fc fr fs wc (by have := HL.out h0; omega)
      subst h0
      go_wp2_with (first | (go_at_call 8; refine HEn.out.mono ?_; rintro e w2 ⟨v2, rfl, hv2⟩))
      go_meet
      case rel => exact ⟨HBc.out.tr hv2.below, by unfold Lif; rw [if_pos rfl]; exact hv2.bm⟩
    · go_wp2_with fail
      go_meet
      case rel => exact ⟨HBc.out, by unfold Lif; rw [if_neg h0]; exact bm_nil _⟩
  case rest =>
  obtain ⟨hbd, hwant⟩ := hcut
  have HBd : Hid (Bw W0 wc) := hbd
  have HW : Hid (BM wc u7 (Lif E (enL fc fr fs))) := hwant
  have hLl : (Lif E (enL fc fr fs)).length ≤ 205 := by
    unfold Lif
    split
    · rw [enL_length]; have := HL.out (by assumption); omega
    · simp
  have HLl : Hid ((Lif E (enL fc fr fs)).length ≤ 205) := hLl
  clear hbd hwant y0 y1 y2 hLl
  obtain ⟨y0, y1, y2⟩ := HAt.out wc HBd.out
  have HEn : Hid (Calls Tryz.prog 9 #[.agg #[.int .i64 fc, .int .i64 fr, .string fs]] wc fun e w' => ∃ v, e = .returned (.tuple #[v, ps.errV E]) ∧ BM w' v (Lif E (enL fc fr fs)) ∧ Bw wc w') := entry_two ⟨fc, fr, fs⟩ wc (HE.out.below (HB0.out.tr HBd.out) HE.out.size) E HEe.out
  apply_assumption
  clear HEb
  go_upto_region 10 with (first | (go_at_call 9; refine HEn.out.mono ?_; rintro e w2 ⟨v2, rfl, hv2, hb2⟩))
  have HB2 : Hid (Bw w w2) := HB0.out.tr (HBd.out.tr hb2)
  have HW2 : Hid (BM w2 u7 (Lif E (enL fc fr fs)) ∧ BM w2 v2 (Lif E (enL fc fr fs))) := ⟨HW.out.next hb2, hv2⟩
  clear HW hv2 hb2 HEn y0 y1 y2 HAt HBd
  go_upto_region 11 with (first | (go_at_call 10; refine (HS.out w2 E HB2.out).mono ?_; rintro e w3 ⟨rfl, hb3⟩))
  have HB3 : Hid (Bw w w3) := HB2.out.tr hb3
  have HBy : Hid (Calls Tryz.prog 11 #[v2, u7] w3 fun e w' => e = .returned (.bool true) ∧ Bw w3 w') := by
    have := rbytes_any v2 u7 _ _ w3 (HW2.out.2.next hb3) (HW2.out.1.next hb3) (by have := HLl.out; omega)
    rw [decide_eq_true rfl] at this
    exact this
  clear hb3 HW2 HB2
  go_upto_region 14 with (first | (go_at_call 11; refine HBy.out.mono ?_; rintro e w4 ⟨rfl, hb4⟩))
  have HB4 : Hid (Bw w w4) := HB3.out.tr hb4
  clear hb4 HB3 HBy
  go_upto_region 15 with (first | (go_at_call 12; refine (HCk.out w4 HB4.out).mono ?_; rintro e w5 ⟨⟨t, rfl, ht⟩, hb5⟩))
  have HT : Hid (ps.Told xs t) := ht
  have HB5 : Hid (Bw w w5) := HB4.out.tr hb5
  clear ht hb5 HB4 HCk HL HLl
  clear HTx
  have HWt : Hid (∀ wx, Bw w wx → Calls Tryz.prog 13 #[.slice p n c] wx fun e w' => ∃ v, e = .returned (.tuple #[v, ps.errV t]) ∧ BM w' v (Lif t (bkS xs)) ∧ Bw wx w') := fun wx hb => by
    have := write_two p c xs wx (fm_next HX.out hb) (HE.out.below hb HE.out.size) t HT.out
    rw [HN.out] at this
    exact this
  go_upto_block 0 with fail
  go_cut [7, 12] (fun s7 s12 wx => ∃ i : Nat, s12 = .int .i64 (i : Int) ∧ Bw w wx ∧ BM wx s7 (Lif t (bkS xs)))
  case first =>
    go_wp2_with fail
    go_loopw [7, 12] (fun s7 s12 wr => ∃ i : Nat, s12 = .int .i64 (i : Int) ∧ i ≤ n ∧ Hid (BV w s7 (Lif t (bkS (xs.take i))) wr)) (fun _ s12 _ => n - (intOf s12).toNat)
    case atStart => exact ⟨0, rfl, Nat.zero_le _, by
      have e : Lif t (bkS (xs.take 0)) = [] := by unfold Lif; split <;> rfl
      show BV _ _ _ _
      rw [e]
      exact (BV.nil w).next HB5.out⟩
    case round =>
      obtain ⟨i, rfl, hi, HV⟩ := hrel
      have hi0 : (0 : Int) ≤ (i : Int) := by omega
      by_cases h0 : t = 0
      · subst h0
        have HF : Hid (ps.Fine xs) := HT.out.fine
        have hn2 : (n : Int) ≤ 200 := by have := HF.out.len; rw [HN.out] at this; omega
        by_cases hlt : i < n
        · have hlt' : (i : Int) < (n : Int) := by omega
          obtain ⟨x, hx⟩ : ∃ x, xs[i]? = some x := ⟨_, List.getElem?_eq_getElem (by rw [HN.out]; exact hlt)⟩
          obtain ⟨g, o, rfl, hg, y0, y1, y2⟩ := fm_at (fm_next HX.out HV.out.below) hx
          have hx2 := HF.out.cell x (List.mem_of_getElem? hx)
          have hlen : (bkS (xs.take i)).length ≤ 41000 := by
            have := bkS_le (xs := xs.take i) fun y hy => (HF.out.cell y (List.mem_of_mem_take hy)).2.2
            rw [List.length_take] at this
            have hl := HF.out.len
            omega
          have HEn : Hid (Calls Tryz.prog 8 #[FVv x] wr fun e w' => ∃ v, e = .returned v ∧ ∃ g c w3, (Builtin.append_ #[29, 29] 29 #[u7, v]).run Tryz.prog w' = .ok (.slice (some ⟨g, 0, none⟩) ((bkS (xs.take i)).length + (x.s.size + 5)) c) w3 ∧ Hid (BV w (.slice (some ⟨g, 0, none⟩) ((bkS (xs.take i)).length + (x.s.size + 5)) c) (Lif 0 (bkS (xs.take (i + 1)))) w3)) := by
            refine (rentry_any x.c x.r x.s wr (by omega)).mono ?_
            rintro e w' ⟨v, rfl, hv⟩
            refine ⟨v, rfl, ?_⟩
            have hV1 : BV w u7 (bkS (xs.take i)) wr := by
              have := HV.out
              unfold Lif at this
              rw [if_pos rfl] at this
              exact this
            obtain ⟨g, c, w3, r3, B3⟩ := (hV1.next hv.below).app hv.bm (by rw [enL_length]; omega) (by rw [enL_length]; omega)
            rw [enL_length] at r3 B3
            refine ⟨g, c, w3, r3, ?_⟩
            show BV _ _ _ _
            unfold Lif
            rw [if_pos rfl, show xs.take (i + 1) = xs.take i ++ [x] by rw [List.take_add_one, hx]; rfl, bkS_snoc]
            exact B3
          clear hx hx2 HV HE HWt HS
          obtain ⟨c1, r1, s1⟩ := x
          dsimp only at y0 y1 y2 HEn
          generalize (bkS (xs.take i)).length + (s1.size + 5) = q at HEn
          go_wp2_with (first | (go_at_call 8; refine HEn.out.mono ?_; rintro e w2 ⟨v2, rfl, g2, c2, w3, r3, B3⟩; have HR3 : Hid _ := r3) | (at_builtin; refine wpList_append_eq rfl _ _ 29 29 rfl _ _ _ _ rfl rfl HR3.out ?_))
          exact ⟨⟨i + 1, by simp, hlt, B3⟩, by simp [intOf]; omega⟩
        · have hlt' : ¬ (i : Int) < (n : Int) := by omega
          obtain rfl : i = n := by omega
          have HV2 : Hid (BV w u7 (Lif 0 (bkS xs)) wr) := by
            have := HV.out
            rw [List.take_of_length_le (by rw [HN.out]; exact Nat.le_refl _)] at this
            exact this
          go_wp2_with fail
          go_meet
          case rel => exact ⟨_, rfl, HV2.out.below, HV2.out.bm⟩
      · have HV2 : Hid (BV w u7 (Lif t (bkS xs)) wr) := by
          have := HV.out
          unfold Lif at this ⊢
          rw [if_neg h0] at this
          show BV _ _ _ _
          rw [if_neg h0]
          exact this
        go_wp2_with fail
        go_meet
        case rel => exact ⟨_, rfl, HV2.out.below, HV2.out.bm⟩
  case rest =>
  obtain ⟨i, rfl, hbc, hwant⟩ := hcut
  have HBc2 : Hid (Bw w wc) := hbc
  have HW5 : Hid (BM wc _ (Lif t (bkS xs))) := hwant
  clear hbc hwant HB5
  apply_assumption
  have HWl : Hid ((Lif t (bkS xs)).length ≤ 41000) := by
    show _ ≤ _
    unfold Lif
    split
    · rename_i h0
      subst h0
      have := bkS_le (xs := xs) fun y hy => (HT.out.fine.cell y hy).2.2
      have := HT.out.fine.len
      omega
    · simp
  go_upto_region 21 with (first | (go_at_call 13; refine (HWt.out _ HBc2.out).mono ?_; rintro e w6 ⟨v6, rfl, hv6, hb6⟩))
  have HB6 : Hid (Bw w w6) := HBc2.out.tr hb6
  have HW6 : Hid (BM w6 u7 (Lif t (bkS xs)) ∧ BM w6 v6 (Lif t (bkS xs))) := ⟨HW5.out.next hb6, hv6⟩
  clear hv6 hb6 HW5 HWt HBc2
  go_upto_region 22 with (first | (go_at_call 10; refine (HS.out w6 t HB6.out).mono ?_; rintro e w7 ⟨rfl, hb7⟩))
  have HB7 : Hid (Bw w w7) := HB6.out.tr hb7
  have HBy : Hid (Calls Tryz.prog 11 #[v6, u7] w7 fun e w' => e = .returned (.bool true) ∧ Bw w7 w') := by
    have := rbytes_any v6 u7 _ _ w7 (HW6.out.2.next hb7) (HW6.out.1.next hb7) (by have := HWl.out; omega)
    rw [decide_eq_true rfl] at this
    exact this
  clear hb7 HW6 HB6
  go_wp2_with (first | (go_at_call 11; refine HBy.out.mono ?_; rintro e w8 ⟨rfl, hb8⟩))
  go_ret
  exact ⟨rfl, HB7.out.tr hb8⟩
end Go.Proofs.YtokfijkhflfioaaGreatDoor.fw
