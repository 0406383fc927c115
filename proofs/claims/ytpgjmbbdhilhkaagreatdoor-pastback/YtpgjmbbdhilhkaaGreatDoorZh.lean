/- Package past: the step that a text makes. Conditions: as each theorem says. -/
import Derived.Test.YtpgjmbbdhilhkaaGreatDoorZg
namespace Go.Proofs.YtpgjmbbdhilhkaaGreatDoor.ps
open Go.RowKit
open adr (C)
theorem bytes_eq {a b : ByteArray} (h : (a.toList == b.toList) = true) : a = b := by
  have h1 : a.toList = b.toList := by simpa using h
  rw [ByteArray.toList_eq, ByteArray.toList_eq] at h1
  exact ByteArray.ext (Array.toList_inj.mp h1)
theorem bytes_ne {a b : ByteArray} (h : (a.toList == b.toList) = false) : a ≠ b := fun e => by
  subst e
  simp at h
theorem froz {W : World} {b : Nat} {cs : Array Value} {t : TypeId} (h : W.heap[b]? = some (.cells cs t (0, 0))) (o : Nat) : W.frozen? ⟨b, o, none⟩ = false := by simp [World.frozen?, h]
theorem own_below {w w' : World} {v : Value} {n B : Nat} {xs : List Value} (h : w.ownsRow B 33 3 v n xs) (hb : Below w.heap.size w w') : w'.ownsRow B 33 3 v n xs := by
  refine ⟨h.1, ?_⟩
  rcases h.2 with h0 | ⟨g, cap, cur, h1, h2, hg, h4⟩
  · exact .inl h0
  · exact .inr ⟨g, cap, cur, h1, h2, (hb.block g (fm.lt_blk hg)).trans hg, h4⟩
theorem own_slice {w : World} {v : Value} {n B : Nat} {xs : List Value} (h : w.ownsRow B 33 3 v n xs) : ∃ p c, v = .slice p n c := by
  rcases h.2 with ⟨rfl, h0⟩ | ⟨g, cap, cur, h1, h2⟩
  · exact ⟨none, 0, by rw [h0]⟩
  · exact ⟨_, _, h1⟩
theorem own_ne {w : World} {v : Value} {n B r : Nat} {xs : List Value} {cs : Array Value} {t : TypeId} {fr : Nat × Nat} (h : w.ownsRow B 33 3 v n xs) (hr : w.heap[r]? = some (.cells cs t fr)) (ht : t ≠ 33) : v.ownBlock ≠ some r := by
  rcases h.2 with ⟨rfl, h0⟩ | ⟨g, cap, cur, rfl, -, hg, -⟩
  · simp [Value.ownBlock]
  · intro e
    have e' : g = r := by simpa [Value.ownBlock] using e
    subst e'
    rw [hr] at hg
    injection hg with hg
    injection hg with _ h2
    exact ht h2
theorem own_nil (w : World) (b : Nat) : w.ownsRow b 33 3 (.slice none 0 0) 0 [] := ⟨rfl, .inl ⟨rfl, rfl⟩⟩
set_option maxRecDepth 100000 in
set_option maxHeartbeats 8000000 in
theorem stepTo1 (p : Option Addr) (c : Nat) (xs : List Fl) (g o cf : Nat) (f : Fl) (w : World) (hx : FM w p xs) (hl : xs.length ≤ 300) (hs : Srt xs) (hf : FM w (some ⟨g, o, none⟩) [f]) :
    Calls Tryz.prog 18 #[.slice p xs.length c, .slice (some ⟨g, o, none⟩) 1 cf] w fun e w' => ∃ va vb, e = .returned (.agg #[va, vb]) ∧ ((txt xs f.c f.r = f.s ∧ va = .slice none 0 0 ∧ vb = .slice none 0 0) ∨ (txt xs f.c f.r ≠ f.s ∧ w'.ownsRow w.heap.size 33 3 va 1 (flF [⟨f.c, f.r, txt xs f.c f.r⟩]) ∧ w'.ownsRow w.heap.size 33 3 vb 1 (flF [f]))) ∧ Below w.heap.size w w' := by
  have HT : Hid (∀ wx, Below w.heap.size w wx → Calls Tryz.prog 24 #[.slice p xs.length c, C f.c f.r] wx fun e w' => e = .returned (.string (txt xs f.c f.r)) ∧ Below wx.heap.size wx w') := fun wx hb => text_any p c xs f.c f.r wx (hx.below hb) hl hs
  obtain ⟨t, ht⟩ : ∃ t, txt xs f.c f.r = t := ⟨_, rfl⟩
  rw [ht] at HT ⊢
  have hb0 : Below w.heap.size w (w.alloc (.cells #[.slice none 0 0, .slice none 0 0] 46)) := (Below.refl _ _).alloc (Nat.le_refl _) _
  have hr0 := heap_alloc_new w (.cells #[.slice none 0 0, .slice none 0 0] 46)
  have HF : Hid (FM w (some ⟨g, o, none⟩) [f]) := hf
  generalize xs.length = n at *
  clear hx hl hs hf ht
  go_enter Tryz.func18, Tryz.ntmps18
  go_wp2_with fail
  have HW0 : Hid (Below w.heap.size w (w.alloc (.cells #[.slice none 0 0, .slice none 0 0] 46)) ∧ (w.alloc (.cells #[.slice none 0 0, .slice none 0 0] 46)).heap[w.heap.size]? = some (.cells #[.slice none 0 0, .slice none 0 0] 46 (0, 0))) := ⟨hb0, hr0⟩
  generalize w.alloc (.cells #[.slice none 0 0, .slice none 0 0] 46) = W0 at *
  clear hb0 hr0
  go_loopw [10] (fun i wr => (i = .int .i64 0 ∧ wr = W0) ∨ (i = .int .i64 1 ∧ ∃ va vb, wr.heap[w.heap.size]? = some (.cells #[va, vb] 46 (0, 0)) ∧ ((t = f.s ∧ va = .slice none 0 0 ∧ vb = .slice none 0 0) ∨ (t ≠ f.s ∧ wr.ownsRow w.heap.size 33 3 va 1 (flF [⟨f.c, f.r, t⟩]) ∧ wr.ownsRow w.heap.size 33 3 vb 1 (flF [f]))) ∧ Below w.heap.size w wr)) (fun i _ => 1 - (intOf i).toNat)
  case atStart => exact .inl ⟨rfl, rfl⟩
  case round =>
    rcases hrel with ⟨rfl, rfl⟩ | ⟨rfl, va, vb, hr, hc, hb⟩
    · obtain ⟨q0, q1, q2⟩ := FM.cells (HF.out.below HW0.out.1) (i := 0) rfl
      rw [Nat.zero_mul, Nat.add_zero] at q0 q1 q2
      have hbx : (wr.alloc (.cells #[.int .i64 f.c, .int .i64 f.r, .string f.s] 33)).heap[wr.heap.size]? = some (.cells #[.int .i64 f.c, .int .i64 f.r, .string f.s] 33 (0, 0)) := heap_alloc_new _ _
      have hb1 : Below w.heap.size w (wr.alloc (.cells #[.int .i64 f.c, .int .i64 f.r, .string f.s] 33)) := HW0.out.1.alloc HW0.out.1.size _
      have hr1 : (wr.alloc (.cells #[.int .i64 f.c, .int .i64 f.r, .string f.s] 33)).heap[w.heap.size]? = some (.cells #[.slice none 0 0, .slice none 0 0] 46 (0, 0)) := (Below.heap_alloc _ _ _ (fm.lt_blk HW0.out.2)).trans HW0.out.2
      obtain ⟨b0, b1, b2⟩ := cells3 hbx
      go_wp2_with fail
      refine (HT.out _ hb1).mono ?_
      rintro e w1 ⟨rfl, hb2⟩
      have HW1 : Hid (Below w.heap.size w w1 ∧ w1.heap[w.heap.size]? = some (.cells #[.slice none 0 0, .slice none 0 0] 46 (0, 0)) ∧ w1.heap[wr.heap.size]? = some (.cells #[.int .i64 f.c, .int .i64 f.r, .string f.s] 33 (0, 0))) := ⟨bnext hb1 hb2 hb1.size, (hb2.block _ (fm.lt_blk hr1)).trans hr1, (hb2.block _ (fm.lt_blk hbx)).trans hbx⟩
      clear b0 b1 b2 hbx hb1 hr1 hb2 q0 q1 q2
      obtain ⟨b0, b1, b2⟩ := cells3 HW1.out.2.2
      obtain ⟨d0, d1⟩ := cells2 HW1.out.2.1
      cases hE : (t.toList == f.s.toList) with
      | true =>
        have HE : Hid (t = f.s) := bytes_eq hE
        go_wp2_with fail
        refine ⟨.inr ⟨rfl, _, _, HW1.out.2.1, .inl ⟨HE.out, rfl, rfl⟩, HW1.out.1⟩, by simp [intOf]⟩
      | false =>
        have HE : Hid (t ≠ f.s) := bytes_ne hE
        have hbA : Below w.heap.size w (w1.alloc (.cells #[.int .i64 f.c, .int .i64 f.r, .string t] 33)) := HW1.out.1.alloc HW1.out.1.size _
        have hrA : (w1.alloc (.cells #[.int .i64 f.c, .int .i64 f.r, .string t] 33)).heap[w.heap.size]? = some (.cells #[.slice none 0 0, .slice none 0 0] 46 (0, 0)) := (Below.heap_alloc _ _ _ (fm.lt_blk HW1.out.2.1)).trans HW1.out.2.1
        have hfA : (w1.alloc (.cells #[.int .i64 f.c, .int .i64 f.r, .string t] 33)).heap[wr.heap.size]? = some (.cells #[.int .i64 f.c, .int .i64 f.r, .string f.s] 33 (0, 0)) := (Below.heap_alloc _ _ _ (fm.lt_blk HW1.out.2.2)).trans HW1.out.2.2
        have hne : wr.heap.size ≠ w.heap.size := fun e => by have := HW1.out.2.2; rw [e, HW1.out.2.1] at this; simp at this
        obtain ⟨va, w2, hra, hoa, hba, -, -, -⟩ := app_many (w1.alloc (.cells #[.int .i64 f.c, .int .i64 f.r, .string t] 33)) _ (Nat.le_refl _) (.slice none 0 0) 0 [] (own_nil _ _) (by omega) _ [⟨f.c, f.r, t⟩] 1 (fm_new w1 ⟨f.c, f.r, t⟩) (by simp)
        obtain ⟨pa, ca, rfl⟩ := own_slice hoa
        obtain ⟨va, hva⟩ : ∃ va, Value.slice pa (0 + [(⟨f.c, f.r, t⟩ : Fl)].length) ca = va := ⟨_, rfl⟩
        have hva1 : va = .slice pa 1 ca := hva.symm
        rw [hva, hva1] at hra hoa
        clear hva hva1
        clear va
        have HRA : Hid ((Builtin.append_ #[22, 22] 22 #[.slice none 0 0, .slice (some ⟨w1.heap.size, 0, none⟩) 1 1]).run Tryz.prog (w1.alloc (.cells #[.int .i64 f.c, .int .i64 f.r, .string t] 33)) = .ok (.slice pa 1 ca) w2) := hra
        have hb2 := bnext hbA hba hbA.size
        have hr2 := (hba.block _ (fm.lt_blk hrA)).trans hrA
        have hf2 := (hba.block _ (fm.lt_blk hfA)).trans hfA
        have hlt := fm.lt_blk hrA
        generalize (w1.alloc (.cells #[.int .i64 f.c, .int .i64 f.r, .string t] 33)).heap.size = BA at hoa hba hlt
        have hr3 : (w2.setCell ⟨w.heap.size, 0, none⟩ (.slice pa 1 ca)).heap[w.heap.size]? = some (.cells #[.slice pa 1 ca, .slice none 0 0] 46 (0, 0)) := by rw [fm.blk_set hr2]; rfl
        have hf3 : (w2.setCell ⟨w.heap.size, 0, none⟩ (.slice pa 1 ca)).heap[wr.heap.size]? = some (.cells #[.int .i64 f.c, .int .i64 f.r, .string f.s] 33 (0, 0)) := (Below.heap_setCell _ _ _ _ hne).trans hf2
        have hb3 : Below w.heap.size w (w2.setCell ⟨w.heap.size, 0, none⟩ (.slice pa 1 ca)) := hb2.setCell (Nat.le_refl _) _
        have ho3 := ownsRow_setCell_below hoa (a := ⟨w.heap.size, 0, none⟩) hlt (.slice pa 1 ca)
        obtain ⟨c0, c1⟩ := cells2 hr2
        have z0 := froz hr2 0
        obtain ⟨c2, c3⟩ := cells2 hr3
        have z1 := froz hr3 1
        obtain ⟨b0, b1, b2⟩ := cells3 hf3
        have HW3 : Hid ((w2.setCell ⟨w.heap.size, 0, none⟩ (.slice pa 1 ca)).heap[w.heap.size]? = some (.cells #[.slice pa 1 ca, .slice none 0 0] 46 (0, 0)) ∧ Below w.heap.size w (w2.setCell ⟨w.heap.size, 0, none⟩ (.slice pa 1 ca)) ∧ (w2.setCell ⟨w.heap.size, 0, none⟩ (.slice pa 1 ca)).ownsRow BA 33 3 (.slice pa 1 ca) (0 + 1) ([] ++ flF [⟨f.c, f.r, t⟩]) ∧ (w2.setCell ⟨w.heap.size, 0, none⟩ (.slice pa 1 ca)).heap[wr.heap.size]? = some (.cells #[.int .i64 f.c, .int .i64 f.r, .string f.s] 33 (0, 0))) := ⟨hr3, hb3, ho3, hf3⟩
        have HL : Hid (w.heap.size < BA) := hlt
        clear hra hbA hrA hfA hb2 hr2 hf2 hr3 hf3 hb3 ho3 hoa hba hlt hne
        clear b0 b1 b2 c2 c3 z1
        go_upto_region 7 with (first | (at_builtin; refine fm.wpList_append_eq rfl _ _ 22 rfl _ _ _ _ rfl rfl HRA.out ?_))
        generalize w2.setCell ⟨w.heap.size, 0, none⟩ (.slice pa 1 ca) = w3 at *
        clear c0 c1 z0 d0 d1 HRA HW1 HT
        obtain ⟨c0, c1⟩ := cells2 HW3.out.1
        obtain ⟨b0, b1, b2⟩ := cells3 HW3.out.2.2.2
        obtain ⟨vb, w4, hrb, hob, hbb, -, -, -⟩ := app_many (w3.alloc (.cells #[.int .i64 f.c, .int .i64 f.r, .string f.s] 33)) _ (Nat.le_refl _) (.slice none 0 0) 0 [] (own_nil _ _) (by omega) _ [f] 1 (fm_new w3 f) (by simp)
        obtain ⟨pb, cb, rfl⟩ := own_slice hob
        have HRB : Hid ((Builtin.append_ #[22, 22] 22 #[.slice none 0 0, .slice (some ⟨w3.heap.size, 0, none⟩) 1 1]).run Tryz.prog (w3.alloc (.cells #[.int .i64 f.c, .int .i64 f.r, .string f.s] 33)) = .ok (.slice pb 1 cb) w4) := hrb
        have hbn : Below w3.heap.size w3 w4 := ((Below.refl _ _).alloc (Nat.le_refl _) _).trans (hbb.mono (by simp))
        have hr4 := (hbn.block _ (fm.lt_blk HW3.out.1)).trans HW3.out.1
        have ho4 := own_below HW3.out.2.2.1 hbn
        have hb4 := bnext HW3.out.2.1 hbn HW3.out.2.1.size
        have hlb : w.heap.size < (w3.alloc (.cells #[.int .i64 f.c, .int .i64 f.r, .string f.s] 33)).heap.size := by have := fm.lt_blk HW3.out.1; simp; omega
        have HO : Hid (w4.ownsRow (w3.alloc (.cells #[.int .i64 f.c, .int .i64 f.r, .string f.s] 33)).heap.size 33 3 (.slice pb 1 cb) 1 (flF [f]) ∧ w4.ownsRow BA 33 3 (.slice pa 1 ca) 1 (flF [⟨f.c, f.r, t⟩]) ∧ w4.heap[w.heap.size]? = some (.cells #[.slice pa 1 ca, .slice none 0 0] 46 (0, 0)) ∧ Below w.heap.size w w4 ∧ w.heap.size < (w3.alloc (.cells #[.int .i64 f.c, .int .i64 f.r, .string f.s] 33)).heap.size) := ⟨hob, ho4, hr4, hb4, hlb⟩
        obtain ⟨e0, e1⟩ := cells2 hr4
        have z1 := froz hr4 1
        clear hrb hob hbb hbn hr4 ho4 hb4 hlb
        go_wp2_with (first | (at_builtin; refine fm.wpList_append_eq rfl _ _ 22 rfl _ _ _ _ rfl rfl HRB.out ?_))
        obtain ⟨k1, k2, k3, k4, k5⟩ := HO.out
        refine ⟨.inr ⟨rfl, .slice pa 1 ca, .slice pb 1 cb, by rw [fm.blk_set k3]; rfl, .inr ⟨HE.out, own_base (ownsRow_setCell_below k2 HL.out _) (Nat.le_of_lt HL.out), own_base (ownsRow_setCell_below k1 k5 _) (Nat.le_of_lt k5)⟩, k4.setCell (Nat.le_refl _) _⟩, by simp [intOf]⟩
    · obtain ⟨⟨pa, na, ca, rfl⟩, pb, nb, cb, rfl⟩ : (∃ pa na ca, va = .slice pa na ca) ∧ ∃ pb nb cb, vb = .slice pb nb cb := by
        rcases hc with ⟨-, rfl, rfl⟩ | ⟨-, h1, h2⟩
        · exact ⟨⟨_, _, _, rfl⟩, _, _, _, rfl⟩
        · obtain ⟨_, _, rfl⟩ := own_slice h1
          obtain ⟨_, _, rfl⟩ := own_slice h2
          exact ⟨⟨_, _, _, rfl⟩, _, _, _, rfl⟩
      obtain ⟨c0, c1⟩ := cells2 hr
      have z0 := froz hr 0
      have z1 := froz hr 1
      have HK : Hid (wr.heap[w.heap.size]? = some (.cells #[Value.slice pa na ca, Value.slice pb nb cb] 46 (0, 0)) ∧ Below w.heap.size w wr ∧ ((t = f.s ∧ Value.slice pa na ca = .slice none 0 0 ∧ Value.slice pb nb cb = .slice none 0 0) ∨ (t ≠ f.s ∧ wr.ownsRow w.heap.size 33 3 (.slice pa na ca) 1 (flF [⟨f.c, f.r, t⟩]) ∧ wr.ownsRow w.heap.size 33 3 (.slice pb nb cb) 1 (flF [f])))) := ⟨hr, hb, hc⟩
      clear hr hb hc
      go_wp2_with fail
      obtain ⟨hr, hb, hc⟩ := HK.out
      have h1 : (wr.setCell ⟨w.heap.size, 0, none⟩ (.slice pa na ca)).heap[w.heap.size]? = some (.cells #[.slice pa na ca, .slice pb nb cb] 46 (0, 0)) := by rw [fm.blk_set hr]; rfl
      have h2 : ((wr.setCell ⟨w.heap.size, 0, none⟩ (.slice pa na ca)).setCell ⟨w.heap.size, 1, none⟩ (.slice pb nb cb)).heap[w.heap.size]? = some (.cells #[.slice pa na ca, .slice pb nb cb] 46 (0, 0)) := by rw [fm.blk_set h1]; rfl
      obtain ⟨e0, e1⟩ := cells2 h2
      refine bodyPost_ret (v := .agg #[.slice pa na ca, .slice pb nb cb]) (by simp [results, Tryz.results18, go_sem, e0, e1]) rfl ⟨_, _, rfl, ?_, (hb.setCell (Nat.le_refl _) _).setCell (Nat.le_refl _) _⟩
      rcases hc with ⟨a1, a2, a3⟩ | ⟨a1, a2, a3⟩
      · exact .inl ⟨a1, a2, a3⟩
      · refine .inr ⟨a1, ?_, ?_⟩
        · have := ownsRow_setCell_other a2 (a := ⟨w.heap.size, 0, none⟩) (own_ne a2 hr (by decide)) (.slice pa na ca)
          exact ownsRow_setCell_other this (a := ⟨w.heap.size, 1, none⟩) (own_ne this h1 (by decide)) _
        · have := ownsRow_setCell_other a3 (a := ⟨w.heap.size, 0, none⟩) (own_ne a3 hr (by decide)) (.slice pa na ca)
          exact ownsRow_setCell_other this (a := ⟨w.heap.size, 1, none⟩) (own_ne this h1 (by decide)) _
end Go.Proofs.YtpgjmbbdhilhkaaGreatDoor.ps
