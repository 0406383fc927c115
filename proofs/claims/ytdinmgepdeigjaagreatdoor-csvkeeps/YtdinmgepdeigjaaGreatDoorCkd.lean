
/- The law CsvKeeps, walked. Conditions: as the theorem says. -/
import Derived.Test.YtdinmgepdeigjaaGreatDoorCkc
namespace Go.Proofs.YtdinmgepdeigjaaGreatDoor.fw
open Go.RowKit Go.Sort
theorem least_of {P : Nat → Prop} : ∀ n, P n → ∃ i, P i ∧ ∀ j, j < i → ¬ P j := by
  intro n
  induction n using Nat.strongRecOn with
  | _ n ih =>
    intro h
    by_cases hc : ∃ j, j < n ∧ P j
    · obtain ⟨j, h1, h2⟩ := hc
      exact ih j h1 h2
    · exact ⟨n, h, fun j hj hp => hc ⟨j, hj, hp⟩⟩
theorem told_some (xs : List ps.Fl) : ∃ t, ps.Told xs t := by
  by_cases h : 200 < xs.length
  · exact ⟨4, .inl ⟨h, rfl⟩⟩
  · by_cases h2 : ∀ i, i < xs.length → ps.cd xs i = 0
    · exact ⟨0, .inr ⟨by omega, .inl ⟨rfl, h2⟩⟩⟩
    · have h3 : ∃ i, i < xs.length ∧ ps.cd xs i ≠ 0 := by
        refine Classical.byContradiction fun hn => h2 fun i hi => Classical.byContradiction fun hc => hn ⟨i, hi, hc⟩
      obtain ⟨n, hn⟩ := h3
      obtain ⟨i, ⟨hi, hc⟩, hl⟩ := least_of (P := fun i => i < xs.length ∧ ps.cd xs i ≠ 0) n hn
      refine ⟨ps.cd xs i, .inr ⟨by omega, .inr ⟨hc, i, hi, rfl, fun j hj => ?_⟩⟩⟩
      exact Classical.byContradiction fun h4 => hl j hj ⟨by omega, h4⟩
theorem sg_of {xs : List ps.Fl} (h : ps.Fine xs) : SG xs (mxR xs) (mxC xs) := by
  obtain ⟨h1, h2, h3⟩ := mx_all xs (fun x hx => (h.cell x hx).1)
  refine ⟨h.srt, h.len, fun x hx => ?_, h3, h2⟩
  have hc := adr.isC_iff.1 (h.cell x hx).1
  exact ⟨⟨hc.1.1, (h1 x hx).1⟩, ⟨hc.2.1, (h1 x hx).2⟩, (h.cell x hx).2.1⟩
abbrev xs0 : List ps.Fl := [⟨1, 1, ⟨#[50]⟩⟩, ⟨2, 1, ⟨#[61, 65, 49, 43, 49]⟩⟩]
theorem xs0_told : ps.Told xs0 0 := by
  refine .inr ⟨by decide, .inl ⟨rfl, fun i hi => ?_⟩⟩
  have h2 : i < 2 := hi
  have e : i = 0 ∨ i = 1 := by omega
  rcases e with rfl | rfl
  · decide +kernel
  · decide +kernel
theorem xs0_mx : mxC xs0 = 2 ∧ mxR xs0 = 1 := by decide
set_option maxRecDepth 1000000 in
set_option maxHeartbeats 4000000 in
theorem cell_is (c r : Int) (w : World) : Calls Tryz.prog 9 #[.int .i64 c, .int .i64 r] w fun e w' => e = .returned (.agg #[.int .i64 c, .int .i64 r]) ∧ Bw w w' := by
  go_enter Tryz.func9, Tryz.ntmps9
  go_wp2_with fail
  exact bodyPost_ret (v := .agg #[.int .i64 c, .int .i64 r]) (by simp [results, Tryz.results9, go_sem]) rfl ⟨rfl, Bw.al w _⟩
set_option maxRecDepth 1000000 in
set_option maxHeartbeats 4000000 in
theorem small_any (w : World) : Calls Tryz.prog 5 #[] w fun e w' => ∃ b, e = .returned (.slice (some ⟨b, 0, none⟩) 2 2) ∧ Hid (ps.FM w' (some ⟨b, 0, none⟩) xs0 ∧ Bw w w') := by
  have HC := cell_is
  go_enter Tryz.func5, Tryz.ntmps5
  go_wp2_with (go_at_call 9; with_reducible refine (HC _ _ _).mono ?_; rintro e w1 ⟨rfl, hb⟩)
  have hbb : Bw w w1 := Bw.tr (by assumption) hb
  refine bodyPost_ret (v := .slice (some ⟨w1.heap.size, 0, none⟩) 2 2) (by simp [results, Tryz.results5, go_sem]) rfl ⟨w1.heap.size, rfl, ?_, hbb.tr (Bw.al w1 _)⟩
  have hA := heap_alloc_new w1 (.cells #[.int .i64 1, .int .i64 1, .string ⟨#[50]⟩, .int .i64 2, .int .i64 1, .string ⟨#[61, 65, 49, 43, 49]⟩] 38)
  refine .inr ⟨w1.heap.size, 0, rfl, (Array.getElem?_eq_some_iff.1 hA).1, fun t u hu => ?_⟩
  simp only [World.cell?, hA]
  rw [Nat.zero_add, ← Array.getElem?_toList]
  exact hu
/-- A grid's first row, where there is one. -/
theorem first_row {w : World} {p : Option Addr} {xs : List ps.Fl} {H W : Nat} (h : RM w p (grid xs H W)) (h0 : 0 < H) : ∃ g o q k, p = some ⟨g, o, none⟩ ∧ w.cell? ⟨g, o, none⟩ = some (.slice q W k) := by
  obtain ⟨g, o, q, k, h1, h2, -⟩ := h.at (grid_at (xs := xs) (W := W) h0)
  rw [List.length_map, List.length_range] at h2
  exact ⟨g, o, q, k, h1, h2⟩
set_option maxRecDepth 1000000 in
set_option maxHeartbeats 8000000 in
theorem csvKeeps_any (p : Option Addr) (c : Nat) (xs : List ps.Fl) (w : World) (hx : ps.FM w p xs) (hE : ps.EnvP w) :
    Calls Tryz.prog 3 #[.slice p xs.length c] w fun e w' => e = .returned (.bool true) ∧ Bw w w' := by
  have HSM : Hid (Calls Tryz.prog 5 #[] w fun e w' => ∃ b, e = .returned (.slice (some ⟨b, 0, none⟩) 2 2) ∧ Hid (ps.FM w' (some ⟨b, 0, none⟩) xs0 ∧ Bw w w')) := small_any w
  have HE : Hid (∀ wx, Bw w wx → ps.EnvP wx) := fun wx hb => hE.below hb hE.size
  have HX : Hid (ps.FM w p xs) := hx
  have HR0 : Hid (∀ b wx, ps.FM wx (some ⟨b, 0, none⟩) xs0 → Bw w wx → Calls Tryz.prog 4 #[.slice (some ⟨b, 0, none⟩) 2 2] wx fun e w' => ∃ g o q k c, e = .returned (.tuple #[.slice (some ⟨g, o, none⟩) 1 c, .nilIface]) ∧ Hid (w'.cell? ⟨g, o, none⟩ = some (.slice q 2 k) ∧ Bw wx w')) := fun b wx hf hb => by
    have h := rows_yes xs0 (some ⟨b, 0, none⟩) 2 wx hf (HE.out wx hb) xs0_told
    rw [xs0_mx.1, xs0_mx.2] at h
    refine h.mono fun e w' ⟨p', c', h1, h2, h3⟩ => ?_
    obtain ⟨g, o, q, k, rfl, h4⟩ := first_row h2 (by decide)
    exact ⟨g, o, q, k, c', h1, h4, h3⟩
  obtain ⟨t, hT⟩ := told_some xs
  have HT : Hid (ps.Told xs t) := hT
  clear hx hE hT
  go_enter Tryz.func3, Tryz.ntmps3
  go_upto_region 2 with (first | (go_at_call 5; with_reducible refine HSM.out.mono ?_; rintro e w1 ⟨b, rfl, h1⟩) | (go_at_call 4; with_reducible refine (HR0.out _ _ h1.out.1 h1.out.2).mono ?_; rintro e w2 ⟨g, o, q, k, c2, rfl, h2⟩))
  have HB2 : Hid (Bw w w2) := h1.out.2.tr h2.out.2
  have c0 := h2.out.1
  clear h1 h2 HR0 HSM
  by_cases h0 : t = 0
  · subst h0
    have HRY : Hid (Calls Tryz.prog 4 #[.slice p xs.length c] w2 fun e w' => ∃ p c, e = .returned (.tuple #[.slice p (mxR xs) c, .nilIface]) ∧ Hid (RM w' p (grid xs (mxR xs) (mxC xs)) ∧ Bw w2 w')) := rows_yes xs p c w2 (fm_next HX.out HB2.out) (HE.out w2 HB2.out) HT.out
    have HSH : Hid (∀ p c wx, RM wx p (grid xs (mxR xs) (mxC xs)) → Bw w wx → Calls Tryz.prog 6 #[.slice p (mxR xs) c] wx fun e w' => ∃ p c, e = .returned (.tuple #[.slice p xs.length c, .nilIface]) ∧ Hid (ps.FM w' p xs ∧ Bw wx w')) := fun p c wx hg hb => sheet_any xs _ _ p c wx hg (sg_of HT.out.fine) HT.out (HE.out wx hb)
    have HLL : Hid (xs.length ≤ 100000) := by have := HT.out.fine.len; show _ ≤ _; omega
    generalize mxR xs = MR at HRY HSH
    generalize mxC xs = MC at HRY HSH
    go_upto_region 8 with (first | (go_at_call 4; with_reducible refine HRY.out.mono ?_; rintro e w3 ⟨p3, c3, rfl, h3⟩) | (go_at_call 6; with_reducible refine (HSH.out _ _ _ h3.out.1 (HB2.out.tr h3.out.2)).mono ?_; rintro e w4 ⟨p4, c4, rfl, h4⟩))
    have HB4 : Hid (Bw w w4) := HB2.out.tr (h3.out.2.tr h4.out.2)
    have HSS : Hid (Calls Tryz.prog 7 #[.slice p4 xs.length c4, .slice p xs.length c] w4 fun e w' => e = .returned (.bool true) ∧ Bw w4 w') := rsheets_fm xs p4 p c4 c w4 h4.out.1 (fm_next HX.out HB4.out) HLL.out
    clear h3 h4 c0
    go_wp2_with (go_at_call 7; with_reducible refine HSS.out.mono ?_; rintro e w5 ⟨rfl, hb5⟩)
    go_ret
    exact ⟨rfl, HB4.out.tr (by assumption)⟩
  · have HRN : Hid (Calls Tryz.prog 4 #[.slice p xs.length c] w2 fun e w' => e = .returned (.tuple #[nls, .iface 41 (.int .i64 t)]) ∧ Bw w2 w') := rows_no xs p c w2 (fm_next HX.out HB2.out) (HE.out w2 HB2.out) t HT.out h0
    go_wp2_with (go_at_call 4; with_reducible refine HRN.out.mono ?_; rintro e w3 ⟨rfl, hb3⟩)
    go_ret
    exact ⟨rfl, HB2.out.tr (by assumption)⟩
end Go.Proofs.YtdinmgepdeigjaaGreatDoor.fw
