
/- Package book: Entry, Write. Conditions: as each theorem says. -/
import Derived.Test.YtokfijkhflfioaaGreatDoorBkh
import Derived.Test.YtokfijkhflfioaaGreatDoorBkg
import Derived.Test.YtokfijkhflfioaaGreatDoorYb
namespace Go.Proofs.YtokfijkhflfioaaGreatDoor.ps
open Go.RowKit
open adr (C isC)
/-- What Check says of a cell with its text: a number that there is one of. -/
def SCk (f : Fl) (n : Int) : Prop := (f.s.size = 0 ∧ n = if isC f.c f.r = true then 0 else 1) ∨ (f.s.size ≠ 0 ∧ Told [f] n)
theorem SCk.one {f : Fl} {n m : Int} (h : SCk f n) (h' : SCk f m) : n = m := by
  rcases h with ⟨h1, h2⟩ | ⟨h1, h2⟩
  · rcases h' with ⟨g1, g2⟩ | ⟨g1, g2⟩
    · rw [h2, g2]
    · exact absurd h1 g1
  · rcases h' with ⟨g1, g2⟩ | ⟨g1, g2⟩
    · exact absurd g1 h1
    · exact h2.one g2
set_option maxHeartbeats 1600000 in
theorem scheck_any (f : Fl) (w : World) (hE : EnvP w) :
    Calls Tryz.prog 20 #[C f.c f.r, .string f.s] w fun e w' => (∃ t, e = .returned (errV t) ∧ SCk f t) ∧ Below w.heap.size w w' := by
  have hb0 : Below w.heap.size w (w.alloc (.cells #[.int .i64 f.c, .int .i64 f.r] 23)) := (Below.refl _ _).alloc (Nat.le_refl _) _
  have hb1 : Below w.heap.size w ((w.alloc (.cells #[.int .i64 f.c, .int .i64 f.r] 23)).alloc (.cells #[.int .i64 f.c, .int .i64 f.r, .string f.s] 25)) := hb0.alloc (by simp) _
  cases h0 : f.s.toList.isEmpty with
  | true =>
    have HE0 : Hid (f.s.size = 0) := emp_yes h0
    have HC : Hid (Calls Tryz.prog 32 #[C f.c f.r] (w.alloc (.cells #[.int .i64 f.c, .int .i64 f.r] 23)) fun e w' => (∃ v, e = .returned v ∧ ∃ t, v = errV t ∧ SCk f t) ∧ Below w.heap.size w w') := (adr.check_any f.c f.r _).mono (fun e w' ⟨e1, e2⟩ => ⟨⟨_, e1, if isC f.c f.r = true then 0 else 1, by cases isC f.c f.r <;> rfl, .inl ⟨HE0.out, rfl⟩⟩, bnext hb0 e2 hb0.size⟩)
    clear hE hb0 hb1
    go_enter Tryz.func20, Tryz.ntmps20
    go_wp2_with fail
    refine HC.out.mono ?_
    rintro e w1 ⟨⟨v, rfl, hv⟩, hb⟩
    go_wp2_with fail
    go_ret
    obtain ⟨t, rfl, ht⟩ := hv
    exact ⟨⟨t, rfl, ht⟩, hb⟩
  | false =>
    have HE0 : Hid (f.s.size ≠ 0) := emp_no h0
    have HC : Hid (Calls Tryz.prog 24 #[.slice (some ⟨w.heap.size + 1, 0, none⟩) 1 1] ((w.alloc (.cells #[.int .i64 f.c, .int .i64 f.r] 23)).alloc (.cells #[.int .i64 f.c, .int .i64 f.r, .string f.s] 25)) fun e w' => (∃ v, e = .returned v ∧ ∃ t, v = errV t ∧ SCk f t) ∧ Below w.heap.size w w') := (gcheck_any (some ⟨w.heap.size + 1, 0, none⟩) 1 [f] _ (by have := fm_new (w.alloc (.cells #[.int .i64 f.c, .int .i64 f.r] 23)) f; simpa using this) (hE.below hb1 hE.size)).mono (fun e w' ⟨⟨t, e1, e2⟩, e3⟩ => ⟨⟨_, e1, t, rfl, .inr ⟨HE0.out, e2⟩⟩, bnext hb1 e3 hb1.size⟩)
    clear hE hb0 hb1
    go_enter Tryz.func20, Tryz.ntmps20
    go_wp2_with fail
    refine HC.out.mono ?_
    rintro e w1 ⟨⟨v, rfl, hv⟩, hb⟩
    go_wp2_with fail
    go_ret
    obtain ⟨t, rfl, ht⟩ := hv
    exact ⟨⟨t, rfl, ht⟩, hb⟩
theorem ckT_le {s : ByteArray} (h : ckT s = 0) : s.size ≤ 200 := by
  by_cases h2 : 200 < s.size
  · rw [ckT_long h2] at h; cases h
  · omega
theorem told_one {f : Fl} {t : Int} (h : Told [f] t) : t = cd [f] 0 := by
  rcases h with ⟨h1, -⟩ | ⟨-, ⟨rfl, h⟩ | ⟨-, i, hi, rfl, -⟩⟩
  · simp at h1
  · exact (h 0 (by simp)).symm
  · obtain rfl : i = 0 := by simpa using hi
    rfl
end Go.Proofs.YtokfijkhflfioaaGreatDoor.ps
namespace Go.Proofs.YtokfijkhflfioaaGreatDoor.fw
open Go.RowKit Go.Sort
abbrev FVv (x : ps.Fl) : Value := .agg #[.int .i64 x.c, .int .i64 x.r, .string x.s]
/-- What a text comes to that a cell is to have: a fault's number. -/
def ftx (s : ByteArray) : Int := if s.size = 0 then 0 else ps.ckT s
theorem sck_is {f : ps.Fl} {t : Int} (h : ps.SCk f t) : t = if adr.isC f.c f.r = true then ftx f.s else 1 := by
  unfold ftx
  rcases h with ⟨h1, rfl⟩ | ⟨h1, h2⟩
  · rw [if_pos h1]
  · rw [if_neg h1, ps.told_one h2]
    cases hc : adr.isC f.c f.r with
    | false => rw [ps.cd_range rfl hc, if_neg (by simp)]
    | true => rw [ps.cd_text rfl hc rfl, if_pos rfl]
theorem sck_zero {f : ps.Fl} {t : Int} (h : ps.SCk f t) : t = 0 ↔ adr.isC f.c f.r = true ∧ ftx f.s = 0 := by
  rw [sck_is h]
  cases adr.isC f.c f.r <;> simp
theorem ftx_le {s : ByteArray} (h : ftx s = 0) : s.size ≤ 200 := by
  unfold ftx at h
  split at h
  · omega
  · exact ps.ckT_le h
/-- What Entry answers. -/
def EtO (w : World) (f : ps.Fl) (t : Int) (e : Ending) (w' : World) : Prop := (t ≠ 0 ∧ e = .returned (.tuple #[.slice none 0 0, ps.errV t]) ∧ Bw w w') ∨ (t = 0 ∧ ∃ v, e = .returned (.tuple #[v, .nilIface]) ∧ BV w v (enL f.c f.r f.s) w')
set_option maxRecDepth 1000000 in
set_option maxHeartbeats 8000000 in
theorem entryP_any (f : ps.Fl) (w : World) (hE : ps.EnvP w) : Calls Tryz.prog 9 #[FVv f] w fun e w' => ∃ t, ps.SCk f t ∧ EtO w f t e w' := by
  obtain ⟨c, r, s⟩ := f
  have hb0 : Bw w (w.alloc (.cells #[.int .i64 c, .int .i64 r, .string s] 25)) := Bw.al w _
  obtain ⟨y0, y1, y2⟩ := cells3q (heap_alloc_new w (.cells #[.int .i64 c, .int .i64 r, .string s] 25))
  have HC : Hid (Calls Tryz.prog 20 #[adr.C c r, .string s] (w.alloc (.cells #[.int .i64 c, .int .i64 r, .string s] 25)) fun e w' => (∃ t, e = .returned (ps.errV t) ∧ ps.SCk ⟨c, r, s⟩ t) ∧ Bw (w.alloc (.cells #[.int .i64 c, .int .i64 r, .string s] 25)) w') := ps.scheck_any ⟨c, r, s⟩ _ (hE.below hb0 hE.size)
  have HB0 : Hid (Bw w (w.alloc (.cells #[.int .i64 c, .int .i64 r, .string s] 25))) := hb0
  have hl0 : w.heap.size < (w.alloc (.cells #[.int .i64 c, .int .i64 r, .string s] 25)).heap.size := by simp
  dsimp only [FVv]
  go_enter Tryz.func9, Tryz.ntmps9
  go_upto_region 2 with (first | (go_at_call 20; refine HC.out.mono ?_; rintro e w1 ⟨⟨t, rfl, ht⟩, hb⟩))
  have HB1 : Hid (Bw w w1) := HB0.out.tr hb
  have c1 : w1.heap[w.heap.size]? = some (.cells #[.int .i64 c, .int .i64 r, .string s] 25) := (hb.block _ hl0).trans (heap_alloc_new w _)
  obtain ⟨z0, z1, z2⟩ := cells3q c1
  have HT : Hid (ps.SCk ⟨c, r, s⟩ t) := ht
  clear y0 y1 y2 hb hE hl0 HC ht c1
  by_cases h0 : t = 0
  · have HL : Hid (s.size ≤ 200) := ftx_le ((sck_zero HT.out).1 h0).2
    have HP : Hid (Calls Tryz.prog 21 #[.slice none 0 0, .agg #[.int .i64 c, .int .i64 r, .string s]] w1 fun e w' => ∃ v', e = .returned v' ∧ BV w v' ([] ++ enL c r s) w') := put_any w _ [] c r s w1 ((BV.nil w).next HB1.out) (by simp) (by have := HL.out; omega)
    subst h0
    rw [ps.errV_zero]
    go_wp2_with (first | (go_at_call 21; refine HP.out.mono ?_; rintro e w2 ⟨v2, rfl, hv2⟩))
    exact bodyPost_ret (v := .tuple #[v2, .nilIface]) (by simp [results, Tryz.results9, go_sem]) rfl ⟨0, HT.out, .inr ⟨rfl, v2, rfl, hv2⟩⟩
  · rw [ps.errV_some h0]
    have HN : Hid (t ≠ 0) := h0
    clear h0
    go_wp2_with fail
    exact bodyPost_ret (v := .tuple #[.slice none 0 0, .iface 56 (.int .i64 t)]) (by simp [results, Tryz.results9, go_sem]) rfl ⟨t, HT.out, .inl ⟨HN.out, by rw [ps.errV_some HN.out], HB1.out⟩⟩
theorem fm_next {w w' : World} {p : Option Addr} {xs : List ps.Fl} (h : ps.FM w p xs) (hb : Bw w w') : ps.FM w' p xs := by
  rcases h with h | ⟨g, o, h1, h2, h3⟩
  · exact .inl h
  · exact .inr ⟨g, o, h1, Nat.lt_of_lt_of_le h2 hb.size, fun t u hu => by rw [hb.cell (p := ⟨g, _, none⟩) h2]; exact h3 t u hu⟩
theorem fm_at {w : World} {p : Option Addr} {xs : List ps.Fl} (h : ps.FM w p xs) {i : Nat} {x : ps.Fl} (hx : xs[i]? = some x) : ∃ g o, p = some ⟨g, o, none⟩ ∧ g < w.heap.size ∧ w.cell? ⟨g, o + i * 3, none⟩ = some (.int .i64 x.c) ∧ w.cell? ⟨g, o + i * 3 + 1, none⟩ = some (.int .i64 x.r) ∧ w.cell? ⟨g, o + i * 3 + 2, none⟩ = some (.string x.s) := by
  obtain ⟨g, o, rfl, hl⟩ := h.at hx
  exact ⟨g, o, rfl, hl, h.cells hx⟩
/-- What Write answers. -/
def WrO (w : World) (xs : List ps.Fl) (t : Int) (e : Ending) (w' : World) : Prop := (t ≠ 0 ∧ e = .returned (.tuple #[.slice none 0 0, ps.errV t]) ∧ Bw w w') ∨ (t = 0 ∧ ∃ v, e = .returned (.tuple #[v, .nilIface]) ∧ BV w v (bkS xs) w')
theorem bkS_snoc (xs : List ps.Fl) (x : ps.Fl) : bkS (xs ++ [x]) = bkS xs ++ enL x.c x.r x.s := by
  unfold bkS
  rw [List.map_append, List.map_cons, List.map_nil, enS_snoc]
  rfl
theorem bkS_le {xs : List ps.Fl} (h : ∀ x ∈ xs, x.s.size ≤ 200) : (bkS xs).length ≤ xs.length * 205 := by
  rw [bkS_length]
  induction xs with
  | nil => simp
  | cons x xs ih =>
    rw [List.map_cons, List.sum_cons, List.length_cons, Nat.succ_mul]
    have := ih fun y hy => h y (List.mem_cons_of_mem _ hy)
    have := h x List.mem_cons_self
    omega
set_option maxRecDepth 1000000 in
set_option maxHeartbeats 8000000 in
theorem writeP_any (p : Option Addr) (c : Nat) (xs : List ps.Fl) (w : World) (hx : ps.FM w p xs) (hE : ps.EnvP w) : Calls Tryz.prog 13 #[.slice p xs.length c] w fun e w' => ∃ t, ps.Told xs t ∧ WrO w xs t e w' := by
  have HX : Hid (ps.FM w p xs) := hx
  have HC : Hid (Calls Tryz.prog 24 #[.slice p xs.length c] w fun e w' => (∃ t, e = .returned (ps.errV t) ∧ ps.Told xs t) ∧ Bw w w') := ps.gcheck_any p c xs w hx hE
  obtain ⟨n, hn⟩ : ∃ n, xs.length = n := ⟨_, rfl⟩
  have HN : Hid (xs.length = n) := hn
  rw [hn] at HC ⊢
  clear hx hE hn
  go_enter Tryz.func13, Tryz.ntmps13
  go_upto_region 2 with (first | (go_at_call 24; refine HC.out.mono ?_; rintro e w1 ⟨⟨t, rfl, ht⟩, hb⟩))
  have HB1 : Hid (Bw w w1) := hb
  have HT : Hid (ps.Told xs t) := ht
  clear hb HC ht
  by_cases h0 : t = 0
  · subst h0
    have HF : Hid (ps.Fine xs) := HT.out.fine
    rw [ps.errV_zero]
    go_wp2_with fail
    go_loopw [5, 15] (fun s5 s15 wr => ∃ i : Nat, s15 = .int .i64 (i : Int) ∧ i ≤ n ∧ Hid (BV w s5 (bkS (xs.take i)) wr)) (fun _ s15 _ => n - (intOf s15).toNat)
    case atStart => exact ⟨0, rfl, Nat.zero_le _, (BV.nil w).next HB1.out⟩
    case round =>
      obtain ⟨i, rfl, hi, HV⟩ := hrel
      by_cases hlt : i < n
      · have hlt' : (i : Int) < (n : Int) := by omega
        have hi0 : (0 : Int) ≤ (i : Int) := by omega
        have hn2 : (n : Int) ≤ 200 := by have := HF.out.len; rw [HN.out] at this; omega
        obtain ⟨x, hx⟩ : ∃ x, xs[i]? = some x := ⟨_, List.getElem?_eq_getElem (by rw [HN.out]; exact hlt)⟩
        obtain ⟨g, o, rfl, hg, y0, y1, y2⟩ := fm_at (fm_next HX.out HV.out.below) hx
        have hx2 := HF.out.cell x (List.mem_of_getElem? hx)
        have hlen : (bkS (xs.take i)).length ≤ 41000 := by
          have := bkS_le (xs := xs.take i) fun y hy => (HF.out.cell y (List.mem_of_mem_take hy)).2.2
          rw [List.length_take] at this
          have hl := HF.out.len
          omega
        have HP : Hid (∀ wx, Bw wr wx → Calls Tryz.prog 21 #[u5, FVv x] wx fun e w' => ∃ v', e = .returned v' ∧ BV w v' (bkS (xs.take (i + 1))) w') := fun wx hb => by
          have := put_any w u5 (bkS (xs.take i)) x.c x.r x.s wx (HV.out.next hb) (by omega) (by omega)
          rw [← bkS_snoc, ← (show xs.take (i + 1) = xs.take i ++ [x] by rw [List.take_add_one, hx]; rfl)] at this
          exact this
        clear hx hx2 HV
        obtain ⟨c1, r1, s1⟩ := x
        dsimp only at y0 y1 y2 HP
        go_wp2_with (first | (go_at_call 21; refine (HP.out _ (Bw.al _ _)).mono ?_; rintro e w2 ⟨v2, rfl, hv2⟩))
        exact ⟨⟨i + 1, by simp, hlt, hv2⟩, by simp [intOf]; omega⟩
      · have hlt' : ¬ (i : Int) < (n : Int) := by omega
        obtain rfl : i = n := by omega
        have HV2 : Hid (BV w u5 (bkS xs) wr) := by
          have := HV.out
          rw [List.take_of_length_le (by rw [HN.out]; exact Nat.le_refl _)] at this
          exact this
        go_wp2_with fail
        exact bodyPost_ret (v := .tuple #[u5, .nilIface]) (by simp [results, Tryz.results13, go_sem]) rfl ⟨0, HT.out, .inr ⟨rfl, u5, rfl, HV2.out⟩⟩
  · rw [ps.errV_some h0]
    have HN2 : Hid (t ≠ 0) := h0
    clear h0
    go_wp2_with fail
    exact bodyPost_ret (v := .tuple #[.slice none 0 0, .iface 56 (.int .i64 t)]) (by simp [results, Tryz.results13, go_sem]) rfl ⟨t, HT.out, .inl ⟨HN2.out, by rw [ps.errV_some HN2.out], HB1.out⟩⟩
end Go.Proofs.YtokfijkhflfioaaGreatDoor.fw
