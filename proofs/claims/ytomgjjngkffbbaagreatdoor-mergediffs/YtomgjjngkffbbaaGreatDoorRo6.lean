
/- The reference's One at a word. Conditions: as each theorem says. -/
import Derived.Test.YtomgjjngkffbbaaGreatDoorRm2
import Derived.Test.YtomgjjngkffbbaaGreatDoorArname
import Derived.Deep.QuietTactic
import Derived.BigQuiet
namespace Go.Proofs.YtomgjjngkffbbaaGreatDoor.fm
open Go.RowKit
/-- What the reference takes a word for. -/
def wordR (t : ByteArray) : Option T :=
  match wholeN t.data.toList with
  | some v => some (.nd 1 (v : Nat) nul .z .z [])
  | none => if (t.toList == [84, 82, 85, 69]) = true then some (.nd 3 1 nul .z .z []) else if (t.toList == [70, 65, 76, 83, 69]) = true then some (.nd 3 0 nul .z .z []) else if (adr.rdR t).ok = true then some (tRef ⟨(adr.rdR t).c, (adr.rdR t).r, (adr.rdR t).fc, (adr.rdR t).fr⟩) else none
def wres (t : ByteArray) (a e : Nat) : Rs T := match wordR t with | none => .err a 2 | some u => .ok u e
set_option maxRecDepth 100000 in
set_option maxHeartbeats 8000000 in
theorem rone_word (pb k d : Nat) (wr : Int) (s : ByteArray) (hs : s.size ≤ 200) (w : World) (h : PD w pb s k wr 0 d) (hk : k ≤ s.size) (t : Tk) (ht : tkR s k = t) (hc : t.kind = 1) (htz : t.t.size ≤ 200) (hg : false = (isNm t.t && decide (nx s t.e = 40))) (RR : Rs T) (hRR : RR = wres t.t t.a t.e) :
    Calls Tryz.prog 70 #[ptr pb] w (OutR w pb s d wr (RR)) := by
  have hte : t.e ≤ s.size := ht ▸ (tk_spec s k hk).2.2
  have HT : Hid (∀ w, Calls Tryz.prog 54 #[.string s, .int .i64 k] w fun e w' => e = .returned (KV (tkR s k).kind ((tkR s k).a : Nat) ((tkR s k).e : Nat) (tkR s k).t) ∧ Below w.heap.size w w') := fun w => token_at s k w hs hk
  rw [ht] at HT
  clear ht
  have HHC : Hid (t.kind = 1) := hc
  clear hc
  have HHRR : Hid (RR = wres t.t t.a t.e) := hRR
  clear hRR
  obtain ⟨g, hgf⟩ : ∃ g : Bool, g = false := ⟨_, rfl⟩
  rw [← hgf] at hg
  have HGF : Hid (g = false) := hgf
  clear hgf
  go_enter Tryz.func70, Tryz.ntmps70
  go_upto_region 1 with fail
  have h0 : PD (w.alloc (.cells NZ 77)) pb s k wr 0 d := h.below ((Below.refl _ _).alloc (Nat.le_refl _) _)
  have hr : (w.alloc (.cells NZ 77)).heap[w.heap.size]? = some (.cells NZ 77 (0, 0)) := blk_new _ _
  have hK0 : Kp (· = pb) w (w.alloc (.cells NZ 77)) := (Kp.refl _ w).alloc _
  have hlt := h.lt
  have hrl : w.heap.size < (w.alloc (.cells NZ 77)).heap.size := by simp
  obtain ⟨rb, hrb⟩ : ∃ rb, w.heap.size = rb := ⟨_, rfl⟩
  rw [hrb] at hr hrl hlt ⊢
  have HRB : Hid (w.heap.size = rb) := hrb
  clear hrb
  generalize w.alloc (.cells NZ 77) = w0 at *
  obtain ⟨⟨c0, c1, c2, c3, c4⟩, f0, f1, f2, f3, f4⟩ := h0.cells
  have hrp : rb ≠ pb := by omega
  go_cut [3] (fun s3 wx => ∃ kb, s3 = ptr kb ∧ KS w0 t kb wx)
  case first =>
    have hlt0 := h0.lt
    have hne : w0.heap.size ≠ pb := by omega
    have hne' : pb ≠ w0.heap.size := by omega
    have KK : Hid (∀ wx, Below w0.heap.size w0 wx → wx.cell? ⟨pb, 0, none⟩ = some (.string s) ∧ wx.cell? ⟨pb, 1, none⟩ = some (.int .i64 k)) := fun wx hb => ⟨(hb.cell (p := ⟨pb, 0, none⟩) hlt0).trans c0, (hb.cell (p := ⟨pb, 1, none⟩) hlt0).trans c1⟩
    clear c0 c1 c2 c3 c4 f0 f1 f2 f3 f4
    go_region_held3 (fun wx => wx.cell? ⟨pb, 0, none⟩ = some (.string s) ∧ wx.cell? ⟨pb, 1, none⟩ = some (.int .i64 k)) (exact KK.out _ (by (repeat (first | exact Below.refl _ _ | assumption | (refine Below.setCell ?_ (by first | exact Nat.le_refl _ | omega) _) | (refine Below.alloc ?_ (by first | exact Nat.le_refl _ | exact hb'.size | omega | (simp <;> omega)) _) | (refine Below.drew ?_))))) ((go_at_call 54; refine (HT.out _).mono ?_; rintro e w1 ⟨rfl, hb⟩; have hb' : Below w0.heap.size w0 w1 := (by first | exact kb1 hb | exact kb2 hb); first | (have hz := kz_a hb; have hz4 := cells4f hz; obtain ⟨⟨z0, z1, z2, z3⟩, y0, y1, y2, y3⟩ := hz4) | skip))
    all_goals
      go_wp2_with fail
      go_meet
      case rel => first | exact ⟨_, rfl, ks3 hb⟩ | exact ks2 hb (Q := fun W => ∃ kb, _ = ptr kb ∧ KS w0 t kb W) (fun w2 h2 => ⟨_, rfl, h2⟩)
  case rest =>
  obtain ⟨kb, rfl, hS⟩ := hcut
  clear c0 c1 c2 c3 c4 f0 f1 f2 f3 f4 HT
  have hlo := hS.lo
  have hne : kb ≠ pb := by have := h0.lt; omega
  have hner : kb ≠ rb := by omega
  have hP : PD wc pb s k wr 0 d := h0.below hS.below
  obtain ⟨⟨c0, c1, c2, c3, c4⟩, f0, f1, f2, f3, f4⟩ := hP.cells
  obtain ⟨⟨z0, z1, z2, z3⟩, y0, y1, y2, y3⟩ := cells4f hS.blk
  have hKx : Kp (· = pb) w wc := hK0.below hS.below
  have hrc : wc.heap[rb]? = some (.cells NZ 77 (0, 0)) := by rw [hS.below.block rb hrl]; exact hr
  have hPe := hP.setAt t.e
  have hKe : Kp (· = pb) wc (wc.setCell ⟨pb, 1, none⟩ (.int .i64 t.e)) := kpset _ _ _ _
  have hrce := hKe.blk hrc hrp
  have hkbe := hKe.blk hS.blk hne
  have hKw := hKx.trans hKe (fun n e => .inl e)
  rw [HHC.out] at z0
  go_upto_region 6 with (first | (go_at_call 91; refine (called_any t.t _ htz).mono ?_; rintro e w3 ⟨rfl, rfl⟩))
  have hPel := hPe.lt
  obtain ⟨⟨e0, e1, e2, e3, e4⟩, h0', h1', h2', h3', h4'⟩ := hPe.cells
  obtain ⟨⟨x0, x1, x2, x3⟩, v0, v1, v2, v3⟩ := cells4f hkbe
  clear c0 c1 c2 c3 c4 f0 f1 f2 f3 f4 z0 z1 z2 z3 y0 y1 y2 y3
  generalize wc.setCell ⟨pb, 1, none⟩ (.int .i64 t.e) = we at *
  have HG : Hid (g = (isNm t.t && decide (nx s t.e = 40))) := hg
  clear hg
  generalize isNm t.t = nm at *
  go_cut [56] (fun s56 wx => s56 = .bool g ∧ Below we.heap.size we wx)
  case first =>
    cases nm with
    | false =>
      have HG2 : Hid (g = false) := by unfold Hid; rw [HG.out]; rfl
      clear HG
      go_quiet (fail)
      go_wp2_with fail
      go_meet
      case rel => exact ⟨by rw [HG2.out], below_drewN (Below.refl _ _) _⟩
    | true =>
      by_cases hl : t.e < s.size
      · have hl' : (t.e : Int) < (s.size : Int) := by omega
        have hnn : (0 : Int) ≤ (t.e : Int) := by omega
        have hb : (((s[t.e].toNat : Nat) : Int) == 40) = g := by
          rw [HG.out, nx_in hl, Bool.eq_iff_iff, beq_iff_eq]
          simp
          omega
        clear HG
        go_quiet (fail)
        go_wp2_with fail
        go_meet
        case rel => exact ⟨rfl, below_drewN (Below.refl _ _) _⟩
      · have hl' : ¬ (t.e : Int) < (s.size : Int) := by omega
        have HG2 : Hid (g = false) := by unfold Hid; rw [HG.out, nx_out hl]; simp
        clear HG
        go_quiet (fail)
        go_wp2_with fail
        go_meet
        case rel => exact ⟨by rw [HG2.out], below_drewN (Below.refl _ _) _⟩
  case rest =>
  obtain ⟨rfl, hbW⟩ := hcut
  clear e0 e1 e2 e3 e4 h0' h1' h2' h3' h4' x0 x1 x2 x3 v0 v1 v2 v3
  have hP6 : PD wc pb s t.e wr 0 d := hPe.below hbW
  have hr6 : wc.heap[rb]? = some (.cells NZ 77 (0, 0)) := by rw [hbW.block _ (lt_blk hrce)]; exact hrce
  have hk6 : wc.heap[kb]? = some (.cells (K4 t) 105 (0, 0)) := by rw [hbW.block _ (lt_blk hkbe)]; exact hkbe
  have hKw6 := hKw.below hbW
  obtain ⟨⟨x0, x1, x2, x3⟩, v0, v1, v2, v3⟩ := cells4f hk6
  rw [HGF.out]
  go_wp2_with fail
  go_at_call 94
  cases hw : wholeN t.t.data.toList with
  | some v =>
    have HR : Hid (RR = .ok (.nd 1 (v : Nat) nul .z .z []) t.e) := by
      unfold Hid
      rw [HHRR.out]
      unfold wres wordR
      rw [hw]
    refine (wholeF_any t.t _ (by omega)).mono ?_
    rw [hw]
    rintro e w7 ⟨rfl, hb7⟩
    clear x0 x1 x2 x3 v0 v1 v2 v3 HHRR hw
    have hr7 : w7.heap[rb]? = some (.cells NZ 77 (0, 0)) := by rw [hb7.block _ (lt_blk hr6)]; exact hr6
    have hk7 : w7.heap[kb]? = some (.cells (K4 t) 105 (0, 0)) := by rw [hb7.block _ (lt_blk hk6)]; exact hk6
    have hP7 := hP6.below hb7
    have hKw7 := hKw6.below hb7
    obtain ⟨⟨d0, d1, d2, d3, d4, d5, d6, d7, d8, d9, d10, d11⟩, df⟩ := cells12 hr7
    go_wp2_with fail
    clear d0 d1 d2 d3 d4 d5 d6 d7 d8 d9 d10 d11 df
    refine fin12 hr7 (Q := bodyPost _ _ _ _ _) ?_
    intro w9 hq9 hk9
    obtain ⟨⟨b0, b1, b2, b3, b4, b5, b6, b7, b8, b9, b10, b11⟩, bf⟩ := cells12 hq9
    refine bodyPost_ret (v := NV 1 (v : Nat) nul .z .z (.slice none 0 0)) (by simp [results, Tryz.results70, go_sem, b0, b1, b2, b3, b4, b5, b6, b7, b8, b9, b10, b11]) rfl ?_
    have hP9 := hP7.keep hk9 (fun e => hrp e.symm)
    have hK9 := hKw7.trans hk9 (fun n e => by right; rw [HRB.out, e]; exact Nat.le_refl _)
    rw [HR.out]
    exact ⟨_, t.e, rfl, Nd.leaf, hP9, hte, rfl, hK9⟩
  | none =>
    refine (wholeF_any t.t _ (by omega)).mono ?_
    rw [hw]
    rintro e w7 ⟨rfl, hb7⟩
    clear x0 x1 x2 x3 v0 v1 v2 v3
    have hr7 : w7.heap[rb]? = some (.cells NZ 77 (0, 0)) := by rw [hb7.block _ (lt_blk hr6)]; exact hr6
    have hk7 : w7.heap[kb]? = some (.cells (K4 t) 105 (0, 0)) := by rw [hb7.block _ (lt_blk hk6)]; exact hk6
    have hP7 := hP6.below hb7
    have hKw7 := hKw6.below hb7
    obtain ⟨⟨x0, x1, x2, x3⟩, v0, v1, v2, v3⟩ := cells4f hk7
    obtain ⟨⟨d0, d1, d2, d3, d4, d5, d6, d7, d8, d9, d10, d11⟩, df⟩ := cells12 hr7
    cases hT : (t.t.toList == [84, 82, 85, 69]) with
    | true =>
      have HR : Hid (RR = .ok (.nd 3 1 nul .z .z []) t.e) := by
        unfold Hid
        rw [HHRR.out]
        unfold wres wordR
        rw [hw]
        simp only [hT, if_true]
      clear HHRR hw
      go_wp2_with fail
      clear x0 x1 x2 x3 v0 v1 v2 v3 d0 d1 d2 d3 d4 d5 d6 d7 d8 d9 d10 d11 df
      refine fin12 hr7 (Q := bodyPost _ _ _ _ _) ?_
      intro w9 hq9 hk9
      obtain ⟨⟨b0, b1, b2, b3, b4, b5, b6, b7, b8, b9, b10, b11⟩, bf⟩ := cells12 hq9
      refine bodyPost_ret (v := NV 3 1 nul .z .z (.slice none 0 0)) (by simp [results, Tryz.results70, go_sem, b0, b1, b2, b3, b4, b5, b6, b7, b8, b9, b10, b11]) rfl ?_
      have hP9 := hP7.keep hk9 (fun e => hrp e.symm)
      have hK9 := hKw7.trans hk9 (fun n e => by right; rw [HRB.out, e]; exact Nat.le_refl _)
      rw [HR.out]
      exact ⟨_, t.e, rfl, Nd.leaf, hP9, hte, rfl, hK9⟩
    | false =>
    cases hF : (t.t.toList == [70, 65, 76, 83, 69]) with
    | true =>
      have HR : Hid (RR = .ok (.nd 3 0 nul .z .z []) t.e) := by
        unfold Hid
        rw [HHRR.out]
        unfold wres wordR
        rw [hw]
        simp only [hT, hF, if_true]
        rfl
      clear HHRR hw
      go_wp2_with fail
      clear x0 x1 x2 x3 v0 v1 v2 v3 d0 d1 d2 d3 d4 d5 d6 d7 d8 d9 d10 d11 df
      refine fin12 hr7 (Q := bodyPost _ _ _ _ _) ?_
      intro w9 hq9 hk9
      obtain ⟨⟨b0, b1, b2, b3, b4, b5, b6, b7, b8, b9, b10, b11⟩, bf⟩ := cells12 hq9
      refine bodyPost_ret (v := NV 3 0 nul .z .z (.slice none 0 0)) (by simp [results, Tryz.results70, go_sem, b0, b1, b2, b3, b4, b5, b6, b7, b8, b9, b10, b11]) rfl ?_
      have hP9 := hP7.keep hk9 (fun e => hrp e.symm)
      have hK9 := hKw7.trans hk9 (fun n e => by right; rw [HRB.out, e]; exact Nat.le_refl _)
      rw [HR.out]
      exact ⟨_, t.e, rfl, Nd.leaf, hP9, hte, rfl, hK9⟩
    | false =>
      have HR : Hid (RR = if (adr.rdR t.t).ok = true then .ok (tRef ⟨(adr.rdR t.t).c, (adr.rdR t.t).r, (adr.rdR t.t).fc, (adr.rdR t.t).fr⟩) t.e else .err t.a 2) := by
        unfold Hid
        rw [HHRR.out]
        unfold wres wordR
        rw [hw]
        simp only [hT, hF]
        cases (adr.rdR t.t).ok <;> rfl
      have HRF : Hid (∀ w, Calls Tryz.prog 95 #[.string t.t] w fun e w' => e = .returned (.tuple #[adr.R (adr.rdR t.t).c (adr.rdR t.t).r (adr.rdR t.t).fc (adr.rdR t.t).fr, .bool (adr.rdR t.t).ok]) ∧ Below w.heap.size w w') := fun w => adr.rref_any t.t w (by omega)
      generalize adr.rdR t.t = D at *
      clear HHRR hw
      clear d0 d1 d2 d3 d4 d5 d6 d7 d8 d9 d10 d11 df
      go_wp2_with fail
      go_at_call 95
      refine (HRF.out _).mono ?_
      rintro e w8 ⟨rfl, hb8⟩
      clear x0 x1 x2 x3 v0 v1 v2 v3 HRF
      have hr8 : w8.heap[rb]? = some (.cells NZ 77 (0, 0)) := by rw [hb8.block _ (lt_blk hr7)]; exact hr7
      have hk8 : w8.heap[kb]? = some (.cells (K4 t) 105 (0, 0)) := by rw [hb8.block _ (lt_blk hk7)]; exact hk7
      have hP8 := hP7.below hb8
      have hKw8 := hKw7.below hb8
      have hb9 : Below w8.heap.size w8 (w8.alloc (.cells #[.int .i64 D.c, .int .i64 D.r, .bool D.fc, .bool D.fr] 74)) := (Below.refl _ _).alloc (Nat.le_refl _) _
      have hrA : (w8.alloc (.cells #[.int .i64 D.c, .int .i64 D.r, .bool D.fc, .bool D.fr] 74)).heap[rb]? = some (.cells NZ 77 (0, 0)) := by rw [hb9.block _ (lt_blk hr8)]; exact hr8
      have hkA : (w8.alloc (.cells #[.int .i64 D.c, .int .i64 D.r, .bool D.fc, .bool D.fr] 74)).heap[kb]? = some (.cells (K4 t) 105 (0, 0)) := by rw [hb9.block _ (lt_blk hk8)]; exact hk8
      have hPA := hP8.below hb9
      have hKwA := hKw8.below hb9
      obtain ⟨⟨x0, x1, x2, x3⟩, v0, v1, v2, v3⟩ := cells4f hkA
      obtain ⟨⟨d0, d1, d2, d3, d4, d5, d6, d7, d8, d9, d10, d11⟩, df⟩ := cells12 hrA
      cases hok : D.ok with
      | true =>
        have HR2 : Hid (RR = .ok (tRef ⟨D.c, D.r, D.fc, D.fr⟩) t.e) := by
          unfold Hid
          rw [HR.out, hok, if_pos rfl]
        clear HR
        go_wp2_with fail
        clear x0 x1 x2 x3 v0 v1 v2 v3 d0 d1 d2 d3 d4 d5 d6 d7 d8 d9 d10 d11 df
        refine fin12 hrA (Q := bodyPost _ _ _ _ _) ?_
        intro w9 hq9 hk9
        obtain ⟨⟨b0, b1, b2, b3, b4, b5, b6, b7, b8, b9, b10, b11⟩, bf⟩ := cells12 hq9
        refine bodyPost_ret (v := NV 5 0 nul ⟨D.c, D.r, D.fc, D.fr⟩ .z (.slice none 0 0)) (by simp [results, Tryz.results70, go_sem, b0, b1, b2, b3, b4, b5, b6, b7, b8, b9, b10, b11]) rfl ?_
        have hP9 := hPA.keep hk9 (fun e => hrp e.symm)
        have hK9 := hKwA.trans hk9 (fun n e => by right; rw [HRB.out, e]; exact Nat.le_refl _)
        rw [HR2.out]
        exact ⟨_, t.e, rfl, Nd.leaf, hP9, hte, rfl, hK9⟩
      | false =>
        have HR2 : Hid (RR = .err t.a 2) := by
          unfold Hid
          rw [HR.out, hok, if_neg (by simp)]
        clear HR
        go_wp2_with fail
        go_at_call 55
        refine (fail_first pb t.e d wr s t.a 2 _ hPA).mono ?_
        rintro e wB ⟨rfl, hPB, hKB⟩
        clear x0 x1 x2 x3 v0 v1 v2 v3 d0 d1 d2 d3 d4 d5 d6 d7 d8 d9 d10 d11 df
        have hrB := hKB.blk hrA hrp
        have hKwB := hKwA.trans hKB (fun n e => .inl e)
        obtain ⟨⟨d0, d1, d2, d3, d4, d5, d6, d7, d8, d9, d10, d11⟩, df⟩ := cells12 hrB
        go_wp2_with fail
        clear d0 d1 d2 d3 d4 d5 d6 d7 d8 d9 d10 d11 df
        refine fin12 hrB (Q := bodyPost _ _ _ _ _) ?_
        intro w9 hq9 hk9
        obtain ⟨⟨b0, b1, b2, b3, b4, b5, b6, b7, b8, b9, b10, b11⟩, bf⟩ := cells12 hq9
        refine bodyPost_ret (v := NV 0 0 nul .z .z (.slice none 0 0)) (by simp [results, Tryz.results70, go_sem, b0, b1, b2, b3, b4, b5, b6, b7, b8, b9, b10, b11]) rfl ?_
        have hP9 := hPB.keep hk9 (fun e => hrp e.symm)
        have hK9 := hKwB.trans hk9 (fun n e => by right; rw [HRB.out, e]; exact Nat.le_refl _)
        rw [HR2.out]
        exact ⟨_, _, t.e, rfl, Nd.leaf, hP9, hte, by omega, hK9⟩
end Go.Proofs.YtomgjjngkffbbaaGreatDoor.fm
