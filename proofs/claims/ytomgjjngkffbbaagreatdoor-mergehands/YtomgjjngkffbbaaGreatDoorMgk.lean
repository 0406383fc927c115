
/- Package merge: checkTexts. Conditions: what the package variables hold. -/
import Derived.Test.YtomgjjngkffbbaaGreatDoorMgs
import Derived.Test.YtomgjjngkffbbaaGreatDoorMga
namespace Go.Proofs.YtomgjjngkffbbaaGreatDoor.fw
open Go Go.RowKit Go.Sort
open ps (ordB)
/-- What is wrong with one of some texts: a number. -/
def cdd (d : List ps.Fl) (i : Nat) : Int := match d[i]? with
  | none => 0
  | some f => if adr.isC f.c f.r = false then 1 else if ordB d i f = true then 5 else ftx f.s
/-- The first fault of some texts. -/
def CdT (d : List ps.Fl) (t : Int) : Prop := (t = 0 ∧ ∀ i, i < d.length → cdd d i = 0) ∨ (t ≠ 0 ∧ ∃ i, i < d.length ∧ cdd d i = t ∧ ∀ j, j < i → cdd d j = 0)
theorem CdT.one {d : List ps.Fl} {e e' : Int} (h : CdT d e) (h' : CdT d e') : e = e' := by
  rcases h with ⟨rfl, h3⟩ | ⟨h3, i, h4, h5, h6⟩
  · rcases h' with ⟨rfl, -⟩ | ⟨g3, k, g4, g5, -⟩
    · rfl
    · exact absurd (g5.symm.trans (h3 k g4)) g3
  · rcases h' with ⟨rfl, g3⟩ | ⟨g3, k, g4, g5, g6⟩
    · exact absurd (h5.symm.trans (g3 i h4)) h3
    · rcases Nat.lt_trichotomy i k with hk | hk | hk
      · exact absurd (h5.symm.trans (g6 i hk)) h3
      · subst hk; exact h5.symm.trans g5
      · exact absurd (g5.symm.trans (h6 k hk)) g3
theorem cdd_zero {d : List ps.Fl} {i : Nat} {x : ps.Fl} (hx : d[i]? = some x) (h : cdd d i = 0) : adr.isC x.c x.r = true ∧ ordB d i x = false ∧ ftx x.s = 0 := by
  unfold cdd at h
  rw [hx] at h
  dsimp only at h
  split at h
  · cases h
  · split at h
    · cases h
    · rename_i h1 h2
      exact ⟨by simpa using h1, by simpa using h2, h⟩
/-- Texts without a fault. -/
structure FineD (d : List ps.Fl) : Prop where
  srt : ps.Srt d
  cell : ∀ x ∈ d, adr.isC x.c x.r = true ∧ x.s.size ≤ 200
theorem CdT.fine {d : List ps.Fl} (h : CdT d 0) : FineD d := by
  rcases h with ⟨-, h3⟩ | ⟨h3, -⟩
  · have key : ∀ i, i ≤ d.length → ps.Srt (d.take i) := by
      intro i
      induction i with
      | zero => intro _; simp [ps.Srt]
      | succ i ih =>
        intro hi
        obtain ⟨x, hx⟩ : ∃ x, d[i]? = some x := ⟨_, List.getElem?_eq_getElem (by omega)⟩
        refine ps.srt_take (ih (by omega)) hx (fun y hy hy' => ?_)
        have := (cdd_zero hx (h3 i (by omega))).2.1
        obtain ⟨k, rfl⟩ : ∃ k, i = k + 1 := ⟨i - 1, by omega⟩
        unfold ordB at this
        rw [show k + 1 - 1 = k from rfl] at hy'
        simp only [hy'] at this
        simpa using this
    refine ⟨by have := key d.length (Nat.le_refl _); rwa [List.take_length] at this, fun x hx => ?_⟩
    obtain ⟨i, hi⟩ := List.getElem?_of_mem hx
    have := cdd_zero hi (h3 i (List.getElem?_eq_some_iff.1 hi).1)
    exact ⟨this.1, ftx_le this.2.2⟩
  · exact absurd rfl h3
/-- So far nothing was found. -/
def FD (d : List ps.Fl) (i : Nat) : Prop := ∀ j, j < i → cdd d j = 0
theorem FD.snoc {d : List ps.Fl} {i : Nat} (h : FD d i) (h1 : cdd d i = 0) : FD d (i + 1) := fun j hj => by
  by_cases e : j = i
  · subst e; exact h1
  · exact h j (by omega)
theorem FD.found {d : List ps.Fl} {i : Nat} {x : ps.Fl} (h : FD d i) (hx : d[i]? = some x) {e : Int} (h1 : cdd d i = e) (h2 : e ≠ 0) : CdT d e :=
  .inr ⟨h2, i, (List.getElem?_eq_some_iff.1 hx).1, h1, h⟩
theorem FD.none {d : List ps.Fl} (h : FD d d.length) : CdT d 0 := .inl ⟨rfl, h⟩
theorem cdd_range {d : List ps.Fl} {i : Nat} {x : ps.Fl} (h : d[i]? = some x) (h1 : adr.isC x.c x.r = false) : cdd d i = 1 := by unfold cdd; rw [h]; exact if_pos h1
theorem cdd_order {d : List ps.Fl} {i : Nat} {x : ps.Fl} (h : d[i]? = some x) (h1 : adr.isC x.c x.r = true) (h2 : ordB d i x = true) : cdd d i = 5 := by unfold cdd; rw [h]; show (if _ then _ else _) = _; rw [if_neg (by simp [h1]), if_pos h2]
theorem cdd_text {d : List ps.Fl} {i : Nat} {x : ps.Fl} (h : d[i]? = some x) (h1 : adr.isC x.c x.r = true) (h2 : ordB d i x = false) : cdd d i = ftx x.s := by unfold cdd; rw [h]; show (if _ then _ else _) = _; rw [if_neg (by simp [h1]), if_neg (by simp [h2])]
abbrev RH (w1 : World) (gx o bf : Nat) (y x : ps.Fl) (wx : World) : Prop := wx.cell? ⟨gx, o, none⟩ = some (.int .i64 y.c) ∧ wx.cell? ⟨gx, o + 1, none⟩ = some (.int .i64 y.r) ∧ wx.cell? ⟨bf, 0, none⟩ = some (.int .i64 x.c) ∧ wx.cell? ⟨bf, 1, none⟩ = some (.int .i64 x.r) ∧ Bw w1 wx
theorem rh_b {w1 : World} {gx o bf : Nat} {y x : ps.Fl} {wx : World} (h : RH w1 gx o bf y x wx) : Bw w1 wx := h.2.2.2.2
theorem cells3y {w : World} {b : Nat} {a0 a1 a2 : Value} {t : TypeId} (h : w.heap[b]? = some (.cells #[a0, a1, a2] t (0, 0))) : w.cell? ⟨b, 0, none⟩ = some a0 ∧ w.cell? ⟨b, 1, none⟩ = some a1 ∧ w.cell? ⟨b, 2, none⟩ = some a2 := by simp [World.cell?, h]
set_option maxRecDepth 1000000 in
set_option maxHeartbeats 8000000 in
theorem checkTexts_any (p : Option Addr) (c : Nat) (d : List ps.Fl) (w : World) (hx : ps.FM w p d) (hl : d.length ≤ 4398046511104) (hE : ps.EnvP w) :
    Calls Tryz.prog 32 #[.slice p d.length c] w fun e w' => (∃ t, e = .returned (ps.errV t) ∧ CdT d t) ∧ Bw w w' := by
  obtain ⟨n, hn⟩ : ∃ n, d.length = n := ⟨_, rfl⟩
  have HN : Hid (d.length = n) := hn
  rw [hn] at hl ⊢
  have HX : Hid (ps.FM w p d ∧ ps.EnvP w) := ⟨hx, hE⟩
  have hl2 : (n : Int) ≤ 4398046511104 := by omega
  clear hx hn hE
  go_enter Tryz.func32, Tryz.ntmps32
  go_wp2_with fail
  go_loopw [9] (fun a wr => ∃ i : Nat, a = .int .i64 i ∧ i ≤ n ∧ Hid (FD d i ∧ Bw w wr)) (fun a _ => n - (intOf a).toNat)
  case atStart => exact ⟨0, rfl, Nat.zero_le _, fun j hj => absurd hj (Nat.not_lt_zero _), Below.refl _ _⟩
  case round =>
    obtain ⟨i, rfl, hi, HK⟩ := hrel
    have hi0 : (0 : Int) ≤ (i : Int) := by omega
    by_cases hin : i < n
    · have hiN : (i : Int) < (n : Int) := by omega
      obtain ⟨x, hx⟩ : ∃ x, d[i]? = some x := ⟨_, List.getElem?_eq_getElem (by rw [HN.out]; exact hin)⟩
      have HXi : Hid (d[i]? = some x) := hx
      obtain ⟨gx, ox, hpx, hgx⟩ := HX.out.1.at hx
      subst hpx
      obtain ⟨q0, q1, q2⟩ := ps.FM.cells (HX.out.1.below HK.out.2) hx
      clear hx
      go_upto_region 4 with fail
      have HW0 : Hid (Bw w (wr.alloc (.cells #[.int .i64 x.c, .int .i64 x.r, .string x.s] 45)) ∧ (wr.alloc (.cells #[.int .i64 x.c, .int .i64 x.r, .string x.s] 45)).heap[wr.heap.size]? = some (.cells #[.int .i64 x.c, .int .i64 x.r, .string x.s] 45 (0, 0))) := ⟨HK.out.2.tr (Bw.al wr _), heap_alloc_new wr _⟩
      generalize wr.alloc (.cells #[.int .i64 x.c, .int .i64 x.r, .string x.s] 45) = W0 at *
      generalize wr.heap.size = bf at *
      clear q0 q1 q2
      obtain ⟨b0, b1, b2⟩ := cells3y HW0.out.2
      have HCK : Hid (Calls Tryz.prog 45 #[.agg #[.int .i64 x.c, .int .i64 x.r]] W0 fun e w' => e = .returned (adr.ckc (adr.isC x.c x.r)) ∧ Bw W0 w') := adr.check_any x.c x.r W0
      cases hC : adr.isC x.c x.r with
      | false =>
        have HC : Hid (adr.isC x.c x.r = false) := hC
        rw [hC] at HCK
        have HCK2 : Hid (Calls Tryz.prog 45 #[.agg #[.int .i64 x.c, .int .i64 x.r]] W0 fun e w' => e = .returned (.iface 67 (.int .i64 1)) ∧ Bw W0 w') := HCK
        clear hC HCK
        go_wp2_with (first | (go_at_call 45; refine HCK2.out.mono ?_; rintro e w1 ⟨rfl, hb1⟩))
        exact bodyPost_ret (v := .iface 67 (.int .i64 1)) (by simp [results, Tryz.results32, go_sem]) rfl ⟨⟨1, rfl, HK.out.1.found HXi.out (cdd_range HXi.out HC.out) (by decide)⟩, HW0.out.1.tr hb1⟩
      | true =>
        have HC : Hid (adr.isC x.c x.r = true) := hC
        rw [hC] at HCK
        have HCK2 : Hid (Calls Tryz.prog 45 #[.agg #[.int .i64 x.c, .int .i64 x.r]] W0 fun e w' => e = .returned .nilIface ∧ Bw W0 w') := HCK
        clear hC HCK
        go_upto_region 7 with (first | (go_at_call 45; refine HCK2.out.mono ?_; rintro e w1 ⟨rfl, hb1⟩))
        have HW1 : Hid (Bw w w1 ∧ w1.heap[bf]? = some (.cells #[.int .i64 x.c, .int .i64 x.r, .string x.s] 45 (0, 0))) := ⟨HW0.out.1.tr hb1, (hb1.block _ (fm.lt_blk HW0.out.2)).trans HW0.out.2⟩
        clear b0 b1 b2 hb1 HCK2
        obtain ⟨b0, b1, b2⟩ := cells3y HW1.out.2
        go_cut [33] (fun s33 wx => ∃ b : Bool, s33 = .bool b ∧ b = ordB d i x ∧ Bw w1 wx)
        case first =>
          by_cases hz : i = 0
          · subst hz
            go_quiet (fail)
            go_wp2_with fail
            go_meet
            case rel => exact ⟨false, rfl, rfl, ps.drewN_below _ _⟩
          · obtain ⟨k, rfl⟩ : ∃ k, i = k + 1 := ⟨i - 1, by omega⟩
            obtain ⟨y, hy⟩ : ∃ y, d[k]? = some y := ⟨_, List.getElem?_eq_getElem (by rw [HN.out]; omega)⟩
            have HY : Hid (d[k]? = some y) := hy
            obtain ⟨y0, y1, -⟩ := ps.FM.cells (HX.out.1.below HW1.out.1) hy
            have SOF : Hid (∀ wx, Bw w1 wx → RH w1 gx (ox + k * 3) bf y x wx) := fun wx hb => ⟨(hb.cell (p := ⟨gx, _, none⟩) (Nat.lt_of_lt_of_le hgx HW1.out.1.size)).trans y0, (hb.cell (p := ⟨gx, _, none⟩) (Nat.lt_of_lt_of_le hgx HW1.out.1.size)).trans y1, (hb.cell (p := ⟨bf, _, none⟩) (fm.lt_blk HW1.out.2)).trans b0, (hb.cell (p := ⟨bf, _, none⟩) (fm.lt_blk HW1.out.2)).trans b1, hb⟩
            have h0d : RH w1 gx (ox + k * 3) bf y x w1.drew := SOF.out _ (Below.refl _ _).drew
            have e1 : ((k + 1 : Nat) : Int) = (k : Int) + 1 := rfl
            have hk0 : (0 : Int) < (k : Int) + 1 := by omega
            have hk00 : (0 : Int) ≤ (k : Int) := by omega
            have hkN : (k : Int) < (n : Int) := by omega
            have hk1N : (k : Int) + 1 < (n : Int) := by omega
            have hk10 : (0 : Int) ≤ (k : Int) + 1 := by omega
            have hk1t : ((k : Int) + 1).toNat = k + 1 := by omega
            have hw1' : IntKind.i64.wrap ((k : Int) + 1 - 1) = (k : Int) := by rw [Int.add_sub_cancel]; exact Go.IntWalk.i64_in _ (by omega)
            have hw2' : IntKind.i64.wrap (k : Int) = (k : Int) := Go.IntWalk.i64_in _ (by omega)
            have hw3' : (k : Int) + 1 - 1 = (k : Int) := by omega
            have HLs : Hid (∀ wx, Calls Tryz.prog 46 #[.agg #[.int .i64 y.c, .int .i64 y.r], .agg #[.int .i64 x.c, .int .i64 x.r]] wx fun e w' => e = .returned (.bool (decide (ps.cmpC y.c y.r x.c x.r < 0))) ∧ Bw wx w') := fun wx => ps.less_any y.c y.r x.c x.r wx
            rw [e1]
            clear hy e1 b0 b1 b2
            go_region_held3 (fun wx => RH w1 gx (ox + k * 3) bf y x wx) (first | exact h0d | exact SOF.out _ ((rh_b (by assumption)).tr (by assumption))) (first | (go_at_call 46; refine (HLs.out _).mono ?_; rintro e w2 ⟨rfl, hb2⟩; have hw2 := (rh_b (by assumption)).tr hb2))
            all_goals
              go_wp2_with fail
              go_meet
              case rel =>
                refine ⟨_, rfl, ?_, hw2⟩
                unfold ordB
                simp only [HY.out]
                first | rfl | (simp [ps.lt]; done)
        case rest =>
        obtain ⟨b, rfl, hA, hbc⟩ := hcut
        have HWc : Hid (Bw w wc ∧ wc.heap[bf]? = some (.cells #[.int .i64 x.c, .int .i64 x.r, .string x.s] 45 (0, 0))) := ⟨HW1.out.1.tr hbc, (hbc.block _ (fm.lt_blk HW1.out.2)).trans HW1.out.2⟩
        have HA : Hid (b = ordB d i x) := hA
        clear hA hbc b0 b1 b2 HW1
        obtain ⟨b0, b1, b2⟩ := cells3y HWc.out.2
        cases b with
        | true =>
          go_wp2_with fail
          exact bodyPost_ret (v := .iface 67 (.int .i64 5)) (by simp [results, Tryz.results32, go_sem]) rfl ⟨⟨5, rfl, HK.out.1.found HXi.out (cdd_order HXi.out HC.out HA.out.symm) (by decide)⟩, HWc.out.1⟩
        | false =>
          have HT : Hid (cdd d i = ftx x.s) := cdd_text HXi.out HC.out HA.out.symm
          have HSC : Hid (Calls Tryz.prog 37 #[.agg #[.int .i64 x.c, .int .i64 x.r], .string x.s] wc fun e w' => e = .returned (ps.errV (ftx x.s)) ∧ Bw wc w') := (ps.scheck_any x wc (HX.out.2.below HWc.out.1 HX.out.2.size)).mono fun e w' ⟨⟨t, h1, h2⟩, h3⟩ => ⟨by rw [h1, sck_is h2, HC.out]; rfl, h3⟩
          obtain ⟨t, ht⟩ : ∃ t, ftx x.s = t := ⟨_, rfl⟩
          rw [ht] at HT HSC
          clear ht
          go_upto_region 10 with (first | (go_at_call 37; refine HSC.out.mono ?_; rintro e w2 ⟨rfl, hb2⟩))
          have HW2 : Hid (Bw w w2) := HWc.out.1.tr hb2
          clear hb2 HSC b0 b1 b2
          by_cases h0 : t = 0
          · subst h0
            rw [ps.errV_zero]
            have HF : Hid (FD d (i + 1)) := HK.out.1.snoc HT.out
            go_wp2_with fail
            exact ⟨⟨i + 1, by simp, hin, HF.out, HW2.out⟩, by simp [intOf]; omega⟩
          · have HN2 : Hid (t ≠ 0) := h0
            rw [ps.errV_some h0]
            clear h0
            go_wp2_with fail
            exact bodyPost_ret (v := .iface 67 (.int .i64 t)) (by simp [results, Tryz.results32, go_sem]) rfl ⟨⟨t, by rw [ps.errV_some HN2.out], HK.out.1.found HXi.out HT.out HN2.out⟩, HW2.out⟩
    · have hiN : ¬ (i : Int) < (n : Int) := by omega
      obtain rfl : i = n := by omega
      go_wp2_with fail
      exact bodyPost_ret (v := .nilIface) (by simp [results, Tryz.results32, go_sem]) rfl ⟨⟨0, rfl, FD.none (by rw [HN.out]; exact HK.out.1)⟩, HK.out.2⟩
end Go.Proofs.YtomgjjngkffbbaaGreatDoor.fw
