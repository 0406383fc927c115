
/- Package merge: Apply. Conditions: what the package variables hold. -/
import Derived.Test.YtomgjjngkffbbaaGreatDoorMgk
import Derived.Test.YtomgjjngkffbbaaGreatDoorMgi
import Derived.Test.YtomgjjngkffbbaaGreatDoorMgx
namespace Go.Proofs.YtomgjjngkffbbaaGreatDoor.ps
/-- Cells that stand one behind the other in a row of so many are no more. -/
theorem srt_len : ∀ (o : List Fl) (lo : Int), Srt o → (∀ f ∈ o, adr.isC f.c f.r = true ∧ lo < f.r * 26 + f.c) → (o.length : Int) ≤ 2600 - lo ∨ o = [] := by
  intro o
  induction o with
  | nil => intro lo _ _; exact .inr rfl
  | cons x o ih =>
    intro lo hs hc
    left
    obtain ⟨h1, h2⟩ := List.pairwise_cons.1 hs
    obtain ⟨c1, c2⟩ := hc x (by simp)
    have c3 := adr.isC_iff.1 c1
    rcases ih (x.r * 26 + x.c) h2 (fun f hf => ⟨(hc f (by simp [hf])).1, by
      have a := lt_iff.1 (h1 f hf)
      have b := adr.isC_iff.1 (hc f (by simp [hf])).1
      omega⟩) with h | h
    · rw [List.length_cons]; omega
    · subst h; simp; omega
end Go.Proofs.YtomgjjngkffbbaaGreatDoor.ps
namespace Go.Proofs.YtomgjjngkffbbaaGreatDoor.fw
open Go Go.RowKit Go.Sort
/-- Cells that stand in order in the sheet's columns and rows are few. -/
theorem grid_few {d : List ps.Fl} (hs : ps.Srt d) (hg : ∀ x ∈ d, adr.isC x.c x.r = true) : d.length ≤ 2600 := by
  rcases ps.srt_len d 0 hs (fun f hf => ⟨hg f hf, by have := adr.isC_iff.1 (hg f hf); omega⟩) with h | h
  · omega
  · subst h; simp
/-- The first fault of Apply. -/
def ApT (l d : List ps.Fl) (t : Int) : Prop := (ps.Told l t ∧ t ≠ 0) ∨ (ps.Told l 0 ∧ ((CdT d t ∧ t ≠ 0) ∨ (CdT d 0 ∧ ((200 < (ps.ap l d).length ∧ t = 4) ∨ ((ps.ap l d).length ≤ 200 ∧ t = 0)))))
/-- What Apply answers. -/
def ApO (w : World) (l d : List ps.Fl) (t : Int) (e : Ending) (w' : World) : Prop :=
  (t ≠ 0 ∧ e = .returned (.tuple #[.slice none 0 0, ps.errV t]) ∧ Bw w w') ∨ (t = 0 ∧ ∃ v, e = .returned (.tuple #[v, .nilIface]) ∧ RV fL w v (ps.ap l d) w')
set_option maxRecDepth 1000000 in
set_option maxHeartbeats 8000000 in
theorem apply_any (p q : Option Addr) (cp cq : Nat) (l d : List ps.Fl) (w : World) (hl : ps.FM w p l) (hcap : l.length ≤ cp) (hd : ps.FM w q d) (hdl : d.length ≤ 4398046511104) (hE : ps.EnvP w) :
    Calls Tryz.prog 14 #[.slice p l.length cp, .slice q d.length cq] w fun e w' => ∃ t, ApT l d t ∧ ApO w l d t e w' := by
  have HC : Hid (Calls Tryz.prog 31 #[.slice p l.length cp] w fun e w' => (∃ t, e = .returned (ps.errV t) ∧ ps.Told l t) ∧ Bw w w') := ps.gcheck_any p cp l w hl hE
  have HD : Hid (∀ wx, Bw w wx → Calls Tryz.prog 32 #[.slice q d.length cq] wx fun e w' => (∃ t, e = .returned (ps.errV t) ∧ CdT d t) ∧ Bw wx w') := fun wx h => checkTexts_any q cq d wx (hd.below h) hdl (hE.below h hE.size)
  have HW : Hid (ps.Told l 0 → CdT d 0 → ∀ wx, Bw w wx → Calls Tryz.prog 33 #[.slice p l.length cp, .slice q d.length cq] wx fun e w' => ∃ p' c', e = .returned (.slice p' (ps.ap l d).length c') ∧ RV fL w (.slice p' (ps.ap l d).length c') (ps.ap l d) w') := fun h1 h2 wx h => by
    have hf := h1.fine
    have hg := h2.fine
    have hfew := grid_few hg.srt fun x hx => (hg.cell x hx).1
    refine (ps.with_any p q cp cq l d wx (hl.below h) (by have := hf.len; omega) hcap (hd.below h) (by omega)).mono ?_
    rintro e w' ⟨⟨v, rfl, ho⟩, hb⟩
    rw [ps.wl_ap hf.srt (fun x hx => (hf.cell x hx).2.1) hg.srt] at ho
    have hv : RV fL wx v (ps.ap l d) w' := ⟨ho, hb⟩
    obtain ⟨p', c', rfl, -⟩ := hv.form
    exact ⟨p', c', rfl, hv.lower h⟩
  obtain ⟨nl, hnl⟩ : ∃ n, l.length = n := ⟨_, rfl⟩
  obtain ⟨nd, hnd⟩ : ∃ n, d.length = n := ⟨_, rfl⟩
  obtain ⟨N, hN⟩ : ∃ n, (ps.ap l d).length = n := ⟨_, rfl⟩
  have HN : Hid ((ps.ap l d).length = N) := hN
  rw [hnl] at HC HW ⊢
  rw [hnd] at HD HW ⊢
  rw [hN] at HW
  clear hl hd hE hnl hnd hN hcap hdl
  go_enter Tryz.func14, Tryz.ntmps14
  go_upto_region 2 with (first | (go_at_call 31; refine HC.out.mono ?_; rintro e w1 ⟨⟨t, rfl, ht⟩, hb1⟩))
  have HT : Hid (ps.Told l t) := ht
  have HB1 : Hid (Bw w w1) := hb1
  clear ht hb1 HC
  by_cases h0 : t = 0
  · subst h0
    rw [ps.errV_zero]
    have HD1 : Hid (Calls Tryz.prog 32 #[.slice q nd cq] w1 fun e w' => (∃ t, e = .returned (ps.errV t) ∧ CdT d t) ∧ Bw w1 w') := HD.out w1 HB1.out
    clear HD
    go_upto_region 5 with (first | (go_at_call 32; refine HD1.out.mono ?_; rintro e w2 ⟨⟨t, rfl, ht⟩, hb2⟩))
    have HT2 : Hid (CdT d t) := ht
    have HB2 : Hid (Bw w w2) := HB1.out.tr hb2
    clear ht hb2 HD1
    by_cases h0 : t = 0
    · subst h0
      rw [ps.errV_zero]
      have HW2 : Hid (Calls Tryz.prog 33 #[.slice p nl cp, .slice q nd cq] w2 fun e w' => ∃ p' c', e = .returned (.slice p' N c') ∧ RV fL w (.slice p' N c') (ps.ap l d) w') := HW.out HT.out HT2.out w2 HB2.out
      clear HW
      go_upto_region 8 with (first | (go_at_call 33; refine HW2.out.mono ?_; rintro e w3 ⟨p', c', rfl, hv⟩))
      have HV : Hid (RV fL w (.slice p' N c') (ps.ap l d) w3) := hv
      clear hv HW2
      by_cases h200 : 200 < N
      · have h200' : (200 : Int) < (N : Int) := by omega
        go_wp2_with fail
        exact bodyPost_ret (v := .tuple #[.slice none 0 0, .iface 67 (.int .i64 4)]) (by simp [results, Tryz.results14, go_sem]) rfl ⟨4, .inr ⟨HT.out, .inr ⟨HT2.out, .inl ⟨by rw [HN.out]; exact h200, rfl⟩⟩⟩, .inl ⟨by decide, rfl, HV.out.below⟩⟩
      · have h200' : ¬ (200 : Int) < (N : Int) := by omega
        go_wp2_with fail
        exact bodyPost_ret (v := .tuple #[.slice p' N c', .nilIface]) (by simp [results, Tryz.results14, go_sem]) rfl ⟨0, .inr ⟨HT.out, .inr ⟨HT2.out, .inr ⟨by rw [HN.out]; omega, rfl⟩⟩⟩, .inr ⟨rfl, _, rfl, HV.out⟩⟩
    · have HN2 : Hid (t ≠ 0) := h0
      rw [ps.errV_some h0]
      clear h0
      go_wp2_with fail
      exact bodyPost_ret (v := .tuple #[.slice none 0 0, .iface 67 (.int .i64 t)]) (by simp [results, Tryz.results14, go_sem]) rfl ⟨t, .inr ⟨HT.out, .inl ⟨HT2.out, HN2.out⟩⟩, .inl ⟨HN2.out, by rw [ps.errV_some HN2.out], HB2.out⟩⟩
  · have HN2 : Hid (t ≠ 0) := h0
    rw [ps.errV_some h0]
    clear h0
    go_wp2_with fail
    exact bodyPost_ret (v := .tuple #[.slice none 0 0, .iface 67 (.int .i64 t)]) (by simp [results, Tryz.results14, go_sem]) rfl ⟨t, .inl ⟨HT.out, HN2.out⟩, .inl ⟨HN2.out, by rw [ps.errV_some HN2.out], HB1.out⟩⟩
end Go.Proofs.YtomgjjngkffbbaaGreatDoor.fw
