
/- Package book: page.takes. Conditions: as each theorem says. -/
import Derived.Test.YtokfijkhflfioaaGreatDoorBkm
import Derived.Test.YtokfijkhflfioaaGreatDoorBkj
namespace Go.Proofs.YtokfijkhflfioaaGreatDoor.fw
open Go Go.RowKit Go.Sort Go.Maps
/-- A cell gets a text, or may not have it. -/
def tkF (xs : List ps.Fl) (f : ps.Fl) : Option (List ps.Fl) := if adr.isC f.c f.r = true ∧ ftx f.s = 0 ∧ (ps.wt xs f).length ≤ 200 then some (ps.wt xs f) else none
theorem lk_look {es : List (Lit × DataW Value)} {xs : List ps.Fl} (h : mpg.Lk Tryz.prog 23 kvF FVv klF es xs) {l : Lit} {v : Value} {pp : List MemPlace} (hv : mpg.anyR v = some ((DataW.map es).atKey l (.held (.agg #[.int .i64 0, .int .i64 0, .string nul])), pp)) : ∃ g : ps.Fl, v = FVv g := by
  unfold mpg.anyR DataW.atKey at hv
  dsimp only at hv
  cases hf : es.find? (fun p => p.1.sameKey l) with
  | none => rw [hf] at hv; cases hv; exact ⟨⟨0, 0, nul⟩, rfl⟩
  | some p =>
    rw [hf] at hv
    obtain ⟨x, hx, rfl⟩ := h.mem.1 (List.mem_of_find?_eq_some hf)
    cases hv
    exact ⟨x, rfl⟩
theorem lk_has {es : List (Lit × DataW Value)} {xs : List ps.Fl} (h : mpg.Lk Tryz.prog 23 kvF FVv klF es xs) {f : ps.Fl} (hf : keyOf Tryz.prog 23 (kvF f) = some (klF f)) : Maps.has (.map es) (klF f) = hasC xs f.c f.r := by
  rw [Bool.eq_iff_iff, h.has key23 hf, hasC_iff]
  constructor
  · rintro ⟨x, hx, e⟩; exact ⟨x, hx, kv_iff.1 e⟩
  · rintro ⟨x, hx, e⟩; exact ⟨x, hx, kv_iff.2 e⟩
theorem bw_map {w wx wy : World} {b : Nat} (h : Bw w wx) (hb : w.heap.size ≤ b) (hg : wx.grownBy wy (some b)) : Bw w wy := h.grown hg h.size (fun k e => by cases e; exact hb)
theorem wf_small {n : Int} (h : 0 ≤ n ∧ n < 256) : (Lit.int .i64 n).wf = true := by
  have h1 : IntKind.i64.min = -9223372036854775808 := rfl
  have h2 : IntKind.i64.max = 9223372036854775807 := rfl
  simp [Lit.wf, h1, h2]
  omega
/-- What takes answers. -/
def TkO (w : World) (b : Nat) (xs : List ps.Fl) (f : ps.Fl) (e : Ending) (w' : World) : Prop := (∃ ys, tkF xs f = some ys ∧ e = .returned (.bool true) ∧ MP w' b ys ∧ Bw w w') ∨ (tkF xs f = none ∧ e = .returned (.bool false) ∧ MP w' b xs ∧ Bw w w')
set_option maxRecDepth 1000000 in
set_option maxHeartbeats 8000000 in
theorem takes_any (w : World) (b : Nat) (hb : w.heap.size ≤ b) (xs : List ps.Fl) (f : ps.Fl) (wx : World) (hB : Bw w wx) (hM : MP wx b xs) (hs : ps.Srt xs) (hl : xs.length ≤ 200) (hE : ps.EnvP w) (hfc : 0 ≤ f.c ∧ f.c < 256) (hfr : 0 ≤ f.r ∧ f.r < 256) :
    Calls Tryz.prog 27 #[.map (some b), FVv f] wx fun e w' => TkO w b xs f e w' := by
  have hkl : keyOf Tryz.prog 23 (kvF f) = some (klF f) := kl_of (wf_small hfc) (wf_small hfr)
  have HKL : Hid (keyOf Tryz.prog 23 (kvF f) = some (klF f)) := hkl
  have HS : Hid (ps.Srt xs) := hs
  have HLx : Hid (xs.length ≤ 200) := hl
  have hbl : b < wx.heap.size := hM.lt
  obtain ⟨c, r, s⟩ := f
  have hb0 : Bw wx (wx.alloc (.cells #[.int .i64 c, .int .i64 r, .string s] 25)) := Bw.al wx _
  obtain ⟨y0, y1, y2⟩ := cells3q (heap_alloc_new wx (.cells #[.int .i64 c, .int .i64 r, .string s] 25))
  obtain ⟨E, hE0⟩ : ∃ E, E = if adr.isC c r = true then ftx s else 1 := ⟨_, rfl⟩
  have HCE : Hid (Calls Tryz.prog 20 #[adr.C c r, .string s] (wx.alloc (.cells #[.int .i64 c, .int .i64 r, .string s] 25)) fun e w' => e = .returned (ps.errV E) ∧ Bw (wx.alloc (.cells #[.int .i64 c, .int .i64 r, .string s] 25)) w') := (ps.scheck_any ⟨c, r, s⟩ _ (hE.below (hB.tr hb0) hE.size)).mono fun e w' ⟨⟨t, h1, h2⟩, h3⟩ => ⟨by rw [h1, sck_is h2, hE0], h3⟩
  have HB0 : Hid (Bw w wx ∧ Bw wx (wx.alloc (.cells #[.int .i64 c, .int .i64 r, .string s] 25)) ∧ w.heap.size ≤ b ∧ MP wx b xs) := ⟨hB, hb0, hb, hM⟩
  have hl0 : wx.heap.size < (wx.alloc (.cells #[.int .i64 c, .int .i64 r, .string s] 25)).heap.size := by simp
  clear hB hb0 hE hM hs hl hkl
  dsimp only [FVv]
  by_cases h0 : E = 0
  · have HZ : Hid (adr.isC c r = true ∧ ftx s = 0) := by
      rw [h0] at hE0
      split at hE0
      · exact ⟨by assumption, hE0.symm⟩
      · cases hE0
    subst h0
    have HC : Hid (Calls Tryz.prog 20 #[adr.C c r, .string s] (wx.alloc (.cells #[.int .i64 c, .int .i64 r, .string s] 25)) fun e w' => e = .returned .nilIface ∧ Bw (wx.alloc (.cells #[.int .i64 c, .int .i64 r, .string s] 25)) w') := HCE
    clear HCE hE0
    go_enter Tryz.func27, Tryz.ntmps27
    go_upto_if 15 with (first | (go_at_call 20; refine HC.out.mono ?_; rintro e w1 ⟨rfl, hb1⟩; have HBX : Hid (Bw (wx.alloc (.cells #[.int .i64 c, .int .i64 r, .string s] 25)) w1) := hb1; have hy := box3_at hb1; obtain ⟨z0, z1, z2⟩ := hy))
    have HB1 : Hid (Bw wx w1) := HB0.out.2.1.tr hb1
    have HM1 : Hid (MP w1 b xs) := HB0.out.2.2.2.at (HB1.out.block b hbl)
    have HBw : Hid (Bw w w1 ∧ w.heap.size ≤ b) := ⟨HB0.out.1.tr HB1.out, HB0.out.2.2.1⟩
    obtain ⟨es, hown, hlk⟩ := HM1.out
    have HOwn : Hid (w1.ownsMap Tryz.prog 23 mpg.anyR b xs.length (.map es)) := hown
    have HLk : Hid (mpg.Lk Tryz.prog 23 kvF FVv klF es xs) := hlk
    have hbl1 : b < w1.heap.size := HM1.out.lt
    have hne : b ≠ wx.heap.size := by omega
    clear hown hlk HC y0 y1 y2 HB0 hb1 HB1
    cases hem : s.toList.isEmpty with
    | true =>
      have HE0 : Hid (s.size = 0) := ps.emp_yes hem
      have HTk : Hid (tkF xs ⟨c, r, s⟩ = some (ps.wt xs ⟨c, r, s⟩)) := by
        show _ = _
        unfold tkF
        rw [if_pos ⟨HZ.out.1, HZ.out.2, Nat.le_trans (wt_nul_len ⟨c, r, s⟩ HE0.out) HLx.out⟩]
      go_wp2_with (first | (at_delete; refine wpList_delete_own _ rfl _ _ 62 23 rfl 25 key23 under_page mpg.anyR b xs.length (.map es) rfl HOwn.out _ (klF ⟨c, r, s⟩) rfl HKL.out ?_; intro w2 hown2 hturn2))
      go_ret
      refine .inl ⟨_, HTk.out, rfl, mpg.MG.del HLk.out key23 HKL.out hown2 ?_, bw_map HBw.out.1 HBw.out.2 hturn2.grown⟩
      have := wt_filt HS.out ⟨c, r, s⟩
      rw [ps.put_nul HE0.out] at this
      exact this
    | false =>
      have HE0 : Hid (s.size ≠ 0) := ps.emp_no hem
      have HTk : Hid (tkF xs ⟨c, r, s⟩ = if (ps.wt xs ⟨c, r, s⟩).length ≤ 200 then some (ps.wt xs ⟨c, r, s⟩) else none) := by
        show _ = _
        unfold tkF
        by_cases h : (ps.wt xs ⟨c, r, s⟩).length ≤ 200
        · rw [if_pos ⟨HZ.out.1, HZ.out.2, h⟩, if_pos h]
        · rw [if_neg (fun h2 => h h2.2.2), if_neg h]
      have HWl : Hid ((ps.wt xs ⟨c, r, s⟩).length = if hasC xs c r = true then xs.length else xs.length + 1) := wt_len HS.out ⟨c, r, s⟩ HE0.out
      go_upto_region 7 with (first | (at_lookup; refine wpList_lookup_own_ok _ rfl _ _ 62 rfl 23 25 key23 under_page mpg.anyR (zeroF _) (.held (.agg #[.int .i64 0, .int .i64 0, .string nul])) [] rfl b xs.length (.map es) rfl HOwn.out _ (klF ⟨c, r, s⟩) rfl HKL.out ?_; intro v pp hv; obtain ⟨fg, rfl⟩ := lk_look HLk.out hv; clear hv; rw [lk_has HLk.out HKL.out]; dsimp only [FVv]))
      have HOwn2 : Hid ((w1.alloc (.cells #[.int .i64 fg.c, .int .i64 fg.r, .string fg.s] 25)).ownsMap Tryz.prog 23 mpg.anyR b xs.length (.map es)) := HOwn.out.alloc _
      have HBw2 : Hid (Bw w (w1.alloc (.cells #[.int .i64 fg.c, .int .i64 fg.r, .string fg.s] 25)) ∧ w.heap.size ≤ b) := ⟨HBw.out.1.tr (Bw.al w1 _), HBw.out.2⟩
      have HAt : Hid ((w1.alloc (.cells #[.int .i64 fg.c, .int .i64 fg.r, .string fg.s] 25)).cell? ⟨wx.heap.size, 0, none⟩ = some (.int .i64 c) ∧ (w1.alloc (.cells #[.int .i64 fg.c, .int .i64 fg.r, .string fg.s] 25)).cell? ⟨wx.heap.size, 1, none⟩ = some (.int .i64 r) ∧ (w1.alloc (.cells #[.int .i64 fg.c, .int .i64 fg.r, .string fg.s] 25)).cell? ⟨wx.heap.size, 2, none⟩ = some (.string s)) := box3_at (HBX.out.tr (Bw.al w1 _))
      generalize w1.alloc (.cells #[.int .i64 fg.c, .int .i64 fg.r, .string fg.s] 25) = w2 at *
      obtain ⟨x0, x1, x2⟩ := HAt.out
      have HPut : Hid (∀ w', w'.ownsMap Tryz.prog 23 mpg.anyR b (xs.length + 1) ((DataW.map es).put (klF ⟨c, r, s⟩) (.held (FVv ⟨c, r, s⟩))) → w2.mapTurned w' b → MP w' b (ps.wt xs ⟨c, r, s⟩) ∧ Bw w w') := fun w' h1 h2 => by
        refine ⟨mpg.MG.put HLk.out key23 HKL.out h1 ?_, bw_map HBw2.out.1 HBw2.out.2 h2.grown⟩
        have := wt_filt HS.out ⟨c, r, s⟩
        rw [ps.put_one HE0.out] at this
        exact this
      have hmx : xs.length < maxLen := by have := HLx.out; have e : maxLen = 9223372036854775807 := rfl; omega
      have HMx : Hid (xs.length < maxLen) := hmx
      have HN2 : Hid (Maps.size (.map es) = xs.length) := HLk.out.len
      have HMP2 : Hid (MP w2 b xs) := ⟨es, HOwn2.out, HLk.out⟩
      clear z0 z1 z2 HBX HOwn HM1 HBw HAt hmx
      obtain ⟨B, hBh⟩ : ∃ B, hasC xs c r = B := ⟨_, rfl⟩
      rw [hBh] at HWl ⊢
      cases B with
      | true =>
        have HTk2 : Hid (tkF xs ⟨c, r, s⟩ = some (ps.wt xs ⟨c, r, s⟩)) := by
          show _ = _
          have h1 := HWl.out
          rw [if_pos rfl] at h1
          rw [HTk.out, if_pos (by rw [h1]; exact HLx.out)]
        go_wp2_with (first | (at_mapUpdate; refine wpList_mapUpdate_in _ rfl _ _ _ 62 rfl 23 25 key23 under_page mpg.anyR b xs.length (.map es) rfl HOwn2.out HMx.out _ _ (klF ⟨c, r, s⟩) rfl rfl HKL.out (.held (FVv ⟨c, r, s⟩)) [] rfl ?_; intro w3 hown3 hturn3))
        go_ret
        obtain ⟨h1, h2⟩ := HPut.out _ hown3 hturn3
        exact .inl ⟨_, HTk2.out, rfl, h1, h2⟩
      | false =>
        by_cases h200 : xs.length = 200
        · have h200' : (xs.length : Int) = 200 := by omega
          have HTk2 : Hid (tkF xs ⟨c, r, s⟩ = none) := by
            show _ = _
            have h1 := HWl.out
            rw [if_neg (by simp)] at h1
            rw [HTk.out, if_neg (by rw [h1]; omega)]
          have hlen : (Builtin.len_ #[62] 3 #[.map (some b)]).run Tryz.prog w2 = .ok (.int .i64 200) w2 := by
            have := HOwn2.out.len under_page 3
            rw [HN2.out, h200] at this
            exact this
          go_wp2_with fail
          go_ret
          exact .inr ⟨HTk2.out, rfl, HMP2.out, HBw2.out.1⟩
        · have h200' : ¬ (xs.length : Int) = 200 := by omega
          have HTk2 : Hid (tkF xs ⟨c, r, s⟩ = some (ps.wt xs ⟨c, r, s⟩)) := by
            show _ = _
            have h1 := HWl.out
            rw [if_neg (by simp)] at h1
            rw [HTk.out, if_pos (by rw [h1]; have := HLx.out; omega)]
          have hlen : (Builtin.len_ #[62] 3 #[.map (some b)]).run Tryz.prog w2 = .ok (.int .i64 (xs.length : Int)) w2 := by
            have := HOwn2.out.len under_page 3
            rw [HN2.out] at this
            exact this
          go_wp2_with (first | (at_mapUpdate; refine wpList_mapUpdate_in _ rfl _ _ _ 62 rfl 23 25 key23 under_page mpg.anyR b xs.length (.map es) rfl HOwn2.out HMx.out _ _ (klF ⟨c, r, s⟩) rfl rfl HKL.out (.held (FVv ⟨c, r, s⟩)) [] rfl ?_; intro w3 hown3 hturn3))
          go_ret
          obtain ⟨h1, h2⟩ := HPut.out _ hown3 hturn3
          exact .inl ⟨_, HTk2.out, rfl, h1, h2⟩
  · have HTk : Hid (tkF xs ⟨c, r, s⟩ = none) := by
      show _ = _
      unfold tkF
      rw [if_neg]
      rintro ⟨h1, h2, -⟩
      rw [if_pos h1] at hE0
      exact h0 (hE0.trans h2)
    have HC : Hid (Calls Tryz.prog 20 #[adr.C c r, .string s] (wx.alloc (.cells #[.int .i64 c, .int .i64 r, .string s] 25)) fun e w' => e = .returned (.iface 56 (.int .i64 E)) ∧ Bw (wx.alloc (.cells #[.int .i64 c, .int .i64 r, .string s] 25)) w') := by
      have := HCE.out
      rw [ps.errV_some h0] at this
      exact this
    clear HCE hE0 h0
    go_enter Tryz.func27, Tryz.ntmps27
    go_wp2_with (first | (go_at_call 20; refine HC.out.mono ?_; rintro e w1 ⟨rfl, hb1⟩))
    go_ret
    have hB1 := HB0.out.2.1.tr hb1
    exact .inr ⟨HTk.out, rfl, HB0.out.2.2.2.at (hB1.block b hbl), HB0.out.1.tr hB1⟩
end Go.Proofs.YtokfijkhflfioaaGreatDoor.fw
