
/- Package pick: how many rows at the head of an order are alike. Conditions: as each theorem says. -/
import Derived.Test.YtbiikodnfaeceaaGreatDoorGc
namespace Go.Proofs.YtbiikodnfaeceaaGreatDoor.so
open Go.RowKit Go.Sort Go.Shelf
/-- What howManyAlike reads first. -/
abbrev ME (W0 : World) (br bb g a gp op : Nat) (sr sb row : Value) (t : Int) (wx : World) : Prop :=
  wx.cell? ⟨br, 0, none⟩ = some sr ∧ wx.cell? ⟨bb, 0, none⟩ = some sb ∧ wx.cell? ⟨g, a, none⟩ = some row ∧ wx.cell? ⟨gp, op, none⟩ = some (.int .i64 t) ∧ Bw W0 wx
theorem me_bw {W0 : World} {br bb g a gp op : Nat} {sr sb row : Value} {t : Int} {wx : World} (h : ME W0 br bb g a gp op sr sb row t wx) : Bw W0 wx := h.2.2.2.2
/-- The variable isFirst, and what it holds. -/
def IF (W0 : World) (n : Nat) (K : Nat → Vl) (bf : Nat) (wx : World) : Prop := ∃ bk' pv cv, Bx wx bf (fhk bk') ∧ Bx wx bk' (.slice pv n cv) ∧ VM wx pv n K ∧ Bw W0 wx
theorem bx_new (w : World) (v : Value) (t : TypeId) : Bx (w.alloc (.cells #[v] t)) w.heap.size v := by
  have h := heap_alloc_new w (.cells #[v] t)
  exact ⟨by simp only [World.cell?, h]; rfl, by simp⟩
theorem IF.mk1 {W0 w3 : World} {n b c3 : Nat} {K : Nat → Vl} {p3 : Option Addr} {lo hi : Nat} (hz : (w3.alloc (.cells #[.slice p3 n c3] 34)).heap[b]? = some (.cells #[.nilFunc] 69 (0, 0))) (hb : b < w3.heap.size) (q1 : VM w3 p3 n K) (qa : At lo hi n p3) (hlo : b < lo ∨ hi ≤ b) (hbw : Bw W0 w3) (h0 : W0.heap.size ≤ b) :
    IF W0 n K b ((w3.alloc (.cells #[.slice p3 n c3] 34)).setCell ⟨b, 0, none⟩ (.func (.func 50) #[] #[.pointer (some ⟨w3.heap.size, 0, none⟩)])) := by
  refine ⟨w3.heap.size, p3, c3, ⟨?_, by simp; omega⟩, (bx_new w3 _ _).setO (by omega) _ _, (q1.next (Bw.al _ _)).setO qa hlo _ _, (hbw.tr (Bw.al _ _)).setCell h0 _⟩
  have := blk_set3 (o := 0) (u := .func (.func 50) #[] #[.pointer (some ⟨w3.heap.size, 0, none⟩)]) hz
  simp only [World.cell?, this]
  rfl
theorem IF.mk2 {W0 w3 : World} {n c3 : Nat} {K : Nat → Vl} {p3 : Option Addr} (q1 : VM w3 p3 n K) (hbw : Bw W0 w3) :
    IF W0 n K (w3.alloc (.cells #[.slice p3 n c3] 34)).heap.size ((w3.alloc (.cells #[.slice p3 n c3] 34)).alloc (.cells #[.func (.func 50) #[] #[.pointer (some ⟨w3.heap.size, 0, none⟩)]] 69)) :=
  ⟨w3.heap.size, p3, c3, bx_new _ _ _, (bx_new w3 _ _).next (Bw.al _ _), (q1.next (Bw.al _ _)).next (Bw.al _ _), (hbw.tr (Bw.al _ _)).tr (Bw.al _ _)⟩
theorem alk_self (a : Nat → Vl) (n : Nat) (c : Nat → Int) : alk a a n c = true := alk_true.2 fun i _ => by have := Vl.cmp_neg (a (c i).toNat) (a (c i).toNat); omega
set_option maxRecDepth 100000 in
set_option maxHeartbeats 8000000 in
theorem howMany_any (T : Tb) (p : Option Addr) (cp : Nat) (pz : Option Addr) (m cz : Nat) (z : Nat → Nat) (p2 : Option Addr) (n c2 : Nat) (c : Nat → Int) (w : World) (hS : Snd T) (hn : n ≤ 12) (hm : m ≤ 60) (hm0 : 0 < m) (hz : ∀ i, i < m → z i < T.q) (hT : TM w p T) (hZ : IM w pz m (fun i => (z i : Int))) (hI : IM w p2 n c) (hc : ∀ i, i < n → colOk T (c i)) :
    Calls Tryz.prog 21 #[.slice p T.q cp, .slice pz m cz, .slice p2 n c2] w fun e w' => (∃ x : Nat, e = .returned (.int .i64 (x : Int)) ∧ 1 ≤ x ∧ x ≤ m ∧ (∀ j, j < x → alk (T.v (z j)) (T.v (z 0)) n c = true) ∧ (x < m → alk (T.v (z x)) (T.v (z 0)) n c = false)) ∧ Bw w w' := by
  obtain ⟨W0, hW0⟩ : ∃ W, (w.alloc (.cells #[.slice p T.q cp] 22)).alloc (.cells #[.slice p2 n c2] 23) = W := ⟨_, rfl⟩
  have hB0 : Bw w W0 := by rw [← hW0]; exact (Bw.al _ _).tr (Bw.al _ _)
  have hbr : Bx W0 w.heap.size (.slice p T.q cp) := by rw [← hW0]; exact (bx_new w _ _).next (Bw.al _ _)
  have hbb : Bx W0 (w.heap.size + 1) (.slice p2 n c2) := by
    rw [← hW0]
    have := bx_new (w.alloc (.cells #[.slice p T.q cp] 22)) (.slice p2 n c2) 23
    have es : (w.alloc (.cells #[.slice p T.q cp] 22)).heap.size = w.heap.size + 1 := by simp
    rwa [es] at this
  have hcol : ∀ t, t < T.q → ∀ i, i < n → 0 ≤ c i ∧ c i < (T.L t : Int) := fun t ht i hi => by
    have := hS.col (hc i hi) ht
    exact ⟨this.1, this.2.1⟩
  have HIX : Hid (∀ bf wx, IF W0 n (fun i => T.v (z 0) (c i).toNat) bf wx → Calls Tryz.prog 37 #[.slice pz m cz, .func (.func 36) #[] #[.pointer (some ⟨bf, 0, none⟩), .pointer (some ⟨w.heap.size, 0, none⟩), .pointer (some ⟨w.heap.size + 1, 0, none⟩)]] wx fun e w' => (∃ x : Int, e = .returned (.int .i64 x) ∧ ((x = -1 ∧ ∀ j, j < m → (!(alk (T.v (z j)) (T.v (z 0)) n c)) = false) ∨ (∃ j, j < m ∧ x = (j : Nat) ∧ (!(alk (T.v (z j)) (T.v (z 0)) n c)) = true ∧ ∀ i, i < j → (!(alk (T.v (z i)) (T.v (z 0)) n c)) = false))) ∧ Bw wx w') := fun bf wx h => by
    obtain ⟨bk', pv, cv, h1, h2, h3, h4⟩ := h
    exact indexI_any pz m cz z (fun j => !(alk (T.v (z j)) (T.v (z 0)) n c)) bf _ _ wx hm (hZ.next (hB0.tr h4)) (fun j hj wy hy => other_any T p cp p2 n c2 c pv cv _ bf _ _ bk' (z j) wy hn hS.few (hz j hj) (hT.next ((hB0.tr h4).tr hy)) (hI.next ((hB0.tr h4).tr hy)) (hcol _ (hz j hj)) (h1.next hy) (h2.next hy) (h3.next hy) (hbr.next (h4.tr hy)) (hbb.next (h4.tr hy)))
  rcases hT.next hB0 with h | ⟨g, o, rfl, hg, h3⟩
  · have := hz 0 hm0; omega
  obtain ⟨y0, hvm⟩ := h3 (z 0) (hz 0 hm0)
  clear h3
  rcases hZ.next hB0 with h | ⟨gp, op, rfl, hgp, h3⟩
  · omega
  have y1 := h3 0 hm0
  dsimp only at y1
  rw [Nat.add_zero] at y1
  clear h3
  have HVI : Hid (∀ wx, Bw W0 wx → Calls Tryz.prog 22 #[.slice (T.P (z 0)) (T.L (z 0)) (T.C (z 0)), .slice p2 n c2] wx fun e w' => ∃ pv cv, e = .returned (.slice pv n cv) ∧ VM w' pv n (fun i => T.v (z 0) (c i).toNat) ∧ At wx.heap.size w'.heap.size n pv ∧ Bw wx w') := fun wx hb =>
    valuesIn_at _ _ _ (T.v (z 0)) p2 n c2 c wx (hvm.next hb) (hI.next (hB0.tr hb)) hn (hcol _ (hz 0 hm0))
  have sof : Hid (∀ wx, Bw W0 wx → ME W0 w.heap.size (w.heap.size + 1) g (o + z 0) gp op (.slice (some ⟨g, o, none⟩) T.q cp) (.slice p2 n c2) (.slice (T.P (z 0)) (T.L (z 0)) (T.C (z 0))) (z 0 : Int) wx) := fun wx hb => ⟨(hbr.next hb).1, (hbb.next hb).1, (hb.cell (p := ⟨g, _, none⟩) hg).trans y0, (hb.cell (p := ⟨gp, _, none⟩) hgp).trans y1, hb⟩
  have HA0 : Hid ((!(alk (T.v (z 0)) (T.v (z 0)) n c)) = false) := by show _ = _; rw [alk_self]; rfl
  obtain ⟨AL, hAL⟩ : ∃ AL : Nat → Bool, (fun j => alk (T.v (z j)) (T.v (z 0)) n c) = AL := ⟨_, rfl⟩
  have HAL : Hid (∀ j, alk (T.v (z j)) (T.v (z 0)) n c = AL j) := fun j => by rw [← hAL]
  have HIX2 : Hid (∀ bf wx, IF W0 n (fun i => T.v (z 0) (c i).toNat) bf wx → Calls Tryz.prog 37 #[.slice (some ⟨gp, op, none⟩) m cz, .func (.func 36) #[] #[.pointer (some ⟨bf, 0, none⟩), .pointer (some ⟨w.heap.size, 0, none⟩), .pointer (some ⟨w.heap.size + 1, 0, none⟩)]] wx fun e w' => (∃ x : Int, e = .returned (.int .i64 x) ∧ ((x = -1 ∧ ∀ j, j < m → AL j = true) ∨ (∃ j : Nat, j < m ∧ x = (j : Nat) ∧ AL j = false ∧ ∀ i, i < j → AL i = true))) ∧ Bw wx w') := fun bf wx h => by
    refine (HIX.out bf wx h).mono ?_
    rintro e w' ⟨⟨x, rfl, hx⟩, hb⟩
    refine ⟨⟨x, rfl, ?_⟩, hb⟩
    rcases hx with ⟨h1, h2⟩ | ⟨j, h1, h2, h3, h4⟩
    · exact .inl ⟨h1, fun j hj => by have := h2 j hj; rw [HAL.out] at this; simpa using this⟩
    · exact .inr ⟨j, h1, h2, by rw [HAL.out] at h3; simpa using h3, fun i hi => by have := h4 i hi; rw [HAL.out] at this; simpa using this⟩
  have HA1 : Hid (AL 0 = true) := by show _ = _; rw [← HAL.out]; exact alk_self _ _ _
  have HGOAL : Hid (∀ x : Nat, ((∀ j, j < x → AL j = true) ∧ (x < m → AL x = false)) → ((∀ j, j < x → alk (T.v (z j)) (T.v (z 0)) n c = true) ∧ (x < m → alk (T.v (z x)) (T.v (z 0)) n c = false))) := fun x h => ⟨fun j hj => by rw [HAL.out]; exact h.1 j hj, fun hx => by rw [HAL.out]; exact h.2 hx⟩
  have hz0 := hz 0 hm0
  have hq60 := hS.few
  clear hAL HAL HIX HA0 y0 y1 hvm hbr hbb hZ hI hc hz hcol hS hT hg hgp
  obtain ⟨q, eq⟩ : ∃ q, T.q = q := ⟨_, rfl⟩
  rw [eq] at sof hz0 hq60 hW0 ⊢
  clear eq
  generalize T.P (z 0) = pt at *
  generalize T.L (z 0) = lt at *
  generalize T.C (z 0) = ct at *
  have hz0' : ((z 0 : Nat) : Int) < (q : Int) := by omega
  have hz00 : (0 : Int) ≤ ((z 0 : Nat) : Int) := by omega
  obtain ⟨K, hK⟩ : ∃ K, (fun i => T.v (z 0) (c i).toNat) = K := ⟨_, rfl⟩
  rw [hK] at HIX2 HVI
  clear hK
  generalize hzz : z 0 = t at *
  have HB0 : Hid (Bw w W0) := hB0
  clear hB0
  have h0d := sof.out W0.drew ((Below.refl _ _).drew)
  obtain ⟨y0, y1, y2, y3, -⟩ := sof.out W0 (Below.refl _ _)
  have hm1 : (0 : Int) < (m : Int) := by omega
  go_enter Tryz.func21, Tryz.ntmps21
  go_upto_region 1 with fail
  go_cut [7] (fun s7 wx => ∃ bf, s7 = .pointer (some ⟨bf, 0, none⟩) ∧ Hid (IF W0 n K bf wx))
  case first =>
    go_region_held3 (fun wx => ME W0 w.heap.size (w.heap.size + 1) g (o + t) gp op (.slice (some ⟨g, o, none⟩) q cp) (.slice p2 n c2) (.slice pt lt ct) (t : Int) wx) (first | exact h0d | exact sof.out _ hB3 | exact sof.out _ hB4 | exact sof.out _ ((me_bw h0d).tr (Bw.al _ _)) | exact sof.out _ (hB3.tr (Bw.al _ _)) | exact sof.out _ (hB4.tr (Bw.al _ _)) | exact sof.out _ (hB4.setCell (by first | exact Nat.le_refl _ | exact hB3.size) _)) (first | (go_at_call 22; refine (HVI.out _ (by first | exact me_bw h0d | exact (me_bw h0d).tr (Bw.al _ _))).mono ?_; rintro e w3 ⟨p3, c3, rfl, q1, qa, q3⟩; have hB3 : Bw W0 w3 := (by first | exact (me_bw h0d).tr q3 | exact ((me_bw h0d).tr (Bw.al _ _)).tr q3); (first | (have hzA : w3.heap[W0.heap.size]? = some (.cells #[.nilFunc] 69 (0, 0)) := (q3.block W0.heap.size (by simp)).trans (heap_alloc_new W0.drew _)) | skip)) | (go_at_call 35; refine (hasKey_any _ _ _ _).mono ?_; rintro e w4 ⟨rfl, q4⟩; have hB4 : Bw W0 w4 := (by rw [q4]; first | exact hB3.tr (Bw.al _ _) | exact (hB3.tr (Bw.al _ _)).tr (Bw.al _ _)); (first | (have hz4 : w4.heap[W0.heap.size]? = some (.cells #[.nilFunc] 69 (0, 0)) := (by rw [q4]; exact bkA hzA _); have zc4 : w4.cell? ⟨W0.heap.size, 0, none⟩ = some .nilFunc := (by simp only [World.cell?, hz4]; rfl); have zf4 := ofrz hz4) | (have hz4 : w4.heap[w3.heap.size]? = some (.cells #[.nilFunc] 69 (0, 0)) := (by rw [q4]; exact bkA (heap_alloc_new w3 _) _); have zc4 : w4.cell? ⟨w3.heap.size, 0, none⟩ = some .nilFunc := (by simp only [World.cell?, hz4]; rfl); have zf4 := ofrz hz4) | skip); have Q4 : Hid (w4 = _) := q4; clear q4))
    all_goals
      go_wp2_with fail
      go_meet
      case rel =>
        have q4 := Q4.out
        subst q4
        first
          | exact ⟨_, rfl, IF.mk1 hz4 (lt_of_blk hzA) q1 qa (.inl (by simp)) hB3 (Nat.le_refl _)⟩
          | (have h := IF.mk1 (w3 := w3.alloc (.cells #[.nilFunc] 69)) hz4 (by simp) (q1.next (Bw.al _ _)) qa (.inr (Nat.le_refl _)) (hB3.tr (Bw.al _ _)) hB3.size
             have es : (w3.alloc (.cells #[.nilFunc] 69)).heap.size = w3.heap.size + 1 := by simp
             rw [es] at h
             exact ⟨_, rfl, h⟩)
          | exact ⟨_, rfl, IF.mk2 q1 hB3⟩
  case rest =>
    obtain ⟨bf, rfl, HIF⟩ := hcut
    clear h0d y0 y1 y2 y3 sof HVI hW0
    go_wp2_with fail
    refine (HIX2.out bf _ HIF.out).mono ?_
    rintro e w2 ⟨⟨x, rfl, hx⟩, hb⟩
    have HB2 : Hid (Bw w w2) := by
      obtain ⟨_, _, _, -, -, -, h4⟩ := HIF.out
      exact (HB0.out.tr h4).tr hb
    clear hb HIX2 HIF
    rcases hx with ⟨rfl, hall⟩ | ⟨j, hjm, rfl, hj1, hj2⟩
    · have HH : Hid (∀ j, j < m → AL j = true) := hall
      clear hall
      go_wp2_with fail
      go_ret
      have := HGOAL.out m ⟨HH.out, fun h => by omega⟩
      exact ⟨⟨m, rfl, hm0, Nat.le_refl _, this.1, this.2⟩, HB2.out⟩
    · have HH : Hid (AL j = false ∧ ∀ i, i < j → AL i = true) := ⟨hj1, hj2⟩
      have hj0 : (j : Int) ≥ 0 := by omega
      clear hj1 hj2
      go_wp2_with fail
      go_ret
      have := HGOAL.out j ⟨HH.out.2, fun _ => HH.out.1⟩
      refine ⟨⟨j, rfl, ?_, by omega, this.1, this.2⟩, HB2.out⟩
      by_cases h0 : j = 0
      · subst h0
        have h1 := HH.out.1
        rw [HA1.out] at h1
        cases h1
      · omega
end Go.Proofs.YtbiikodnfaeceaaGreatDoor.so
