
/- The law PickCounts. Conditions: as each theorem says. -/
import Derived.Test.YtbiikodnfaeceaaDoorGo
namespace Go.Proofs.YtbiikodnfaeceaaDoor.so
open Go.RowKit Go.Sort Go.Shelf
theorem rnumG_any (n : Int) (w : World) : Calls Tryd.prog 5 #[.int .i64 n] w fun e w' => e = .returned (V 1 n nul) ∧ Gr w w' := by
  go_enter Tryd.func5, Tryd.ntmps5
  go_wp2
  exact bodyPost_ret (v := V 1 n nul) (by simp [results, Tryd.results5, go_sem]) rfl ⟨rfl, (Gr.refl w).alloc _⟩
theorem Pt.all {al : Nat → Nat → Bool} {Z : List Nat} {ps : List (List Nat)} (h : Pt al Z ps) (hal : ∀ i j, al i j = true) (hq : 0 < Z.length) : ps = [Z] := by
  cases h with
  | nil => simp at hq
  | step z h t ps h1 h2 h3 =>
    cases t with
    | nil =>
      cases h3 with
      | nil => simp
    | cons y t' => exact absurd (h2 y t' rfl) (by rw [hal]; simp)
/-- The table of the example. -/
def T0 (b1 b2 : Nat) : Tb := ⟨2, fun i => some ⟨if i = 0 then b1 else b2, 0, none⟩, fun _ => 1, fun _ => 1, fun _ _ => ⟨1, 1, nul⟩⟩
theorem ok0 (n : Int) : (⟨1, n, nul⟩ : Vl).ok = true := by
  show isVal 1 n nul = true
  rw [isVal, if_neg (by omega), if_pos rfl]
  first | rfl | decide +kernel | simp [nul]
theorem gf0 (b1 b2 : Nat) : GF (T0 b1 b2) 1 (fun _ => 0) 0 0 :=
  .inr ⟨.inr ⟨.inr (.inr (.inr (.inr ⟨rfl, ⟨by show 2 ≤ 60; omega, fun i _ => by show 1 ≤ 12; omega, fun i _ => rfl, fun i hi j hj => ok0 _⟩⟩))), .inr (.inr ⟨rfl, by decide, fun i _ => ⟨by show (0 : Int) ≤ 0; omega, by show (0 : Int) < ((1 : Nat) : Int); omega⟩⟩)⟩, .inr ⟨rfl, ⟨by show (0 : Int) ≤ 0; omega, by show (0 : Int) < ((1 : Nat) : Int); omega⟩⟩⟩
theorem factG (b1 b2 : Nat) (p p2 : Option Addr) (W : World) (hT : TM W p (T0 b1 b2)) (hI : IM W p2 1 (fun _ => 0)) :
    Calls Tryd.prog 4 #[.slice p 2 2, .slice p2 1 1, .int .i64 0] W fun e w' => ∃ g cc, e = .returned (.tuple #[.slice (some ⟨g, 0, none⟩) 1 cc, .nilIface]) ∧ g < w'.heap.size ∧ w'.cell? ⟨g, 1, none⟩ = some (.int .i64 2) ∧ w'.cell? ⟨g, 2, none⟩ = some (.int .i64 1) ∧ w'.cell? ⟨g, 3, none⟩ = some (.int .i64 2) ∧ w'.cell? ⟨g, 4, none⟩ = some (.string nul) ∧ Bw W w' := by
  refine (group_any (T0 b1 b2) p 2 p2 1 1 (fun _ => 0) 0 W hT hI (by show 2 ≤ _; omega) (by omega) (fun i _ => by show 1 ≤ _; omega) (fun i _ j _ => by show B64 1; exact ⟨by omega, by omega⟩)).mono ?_
  rintro e w' ⟨⟨er, v, rfl, hgf, -, hyes⟩, hb⟩
  have her := hgf.one (gf0 b1 b2)
  subst her
  obtain ⟨W', Z, gs, -, hst, hpt, hgs⟩ := hyes rfl
  have hl : Z.length = 2 := by rw [hst.1.length_eq]; rfl
  have hps := hpt.all (fun i j => by show alk _ _ _ _ = true; exact alk_self _ _ _) (by omega)
  obtain ⟨g0, rfl⟩ : ∃ g0, gs = [g0] := by
    match gs, hps with
    | [g0], _ => exact ⟨g0, rfl⟩
  have hgp : g0.pt = Z := by simpa using hps
  obtain ⟨g, cc, rfl, hg, hcl⟩ := hgs.gm (by simp)
  have hsum : gsum (T0 b1 b2) (0 : Int).toNat Z = ⟨1, 2, nul⟩ := by
    match Z, hl with
    | [a, b], _ => rfl
  have y1 := hcl 0 g0 rfl 1 (by omega)
  have y2 := hcl 0 g0 rfl 2 (by omega)
  have y3 := hcl 0 g0 rfl 3 (by omega)
  have y4 := hcl 0 g0 rfl 4 (by omega)
  simp only [g5, List.getElem?_cons_succ, List.getElem?_cons_zero, Nat.zero_mul, Nat.zero_add, hgp, hsum, hl] at y1 y2 y3 y4
  exact ⟨g, cc, by rw [errV_0]; rfl, hg, y1, y2, y3, y4, hb⟩
theorem factW {w1 w2 : World} (hb2 : Bw (w1.alloc (.cells #[.int .i64 1, .int .i64 1, .string nul] 30)) w2) :
    Calls Tryd.prog 4 #[.slice (some ⟨w2.heap.size + 1, 0, none⟩) 2 2, .slice (some ⟨w2.heap.size + 2, 0, none⟩) 1 1, .int .i64 0] (((w2.alloc (.cells #[.int .i64 1, .int .i64 1, .string nul] 30)).alloc (.cells #[.slice (some ⟨w1.heap.size, 0, none⟩) 1 1, .slice (some ⟨w2.heap.size, 0, none⟩) 1 1] 32)).alloc (.cells #[.int .i64 0] 3)) fun e w' => ∃ g cc, e = .returned (.tuple #[.slice (some ⟨g, 0, none⟩) 1 cc, .nilIface]) ∧ g < w'.heap.size ∧ w'.cell? ⟨g, 1, none⟩ = some (.int .i64 2) ∧ w'.cell? ⟨g, 2, none⟩ = some (.int .i64 1) ∧ w'.cell? ⟨g, 3, none⟩ = some (.int .i64 2) ∧ w'.cell? ⟨g, 4, none⟩ = some (.string nul) ∧ Bw (((w2.alloc (.cells #[.int .i64 1, .int .i64 1, .string nul] 30)).alloc (.cells #[.slice (some ⟨w1.heap.size, 0, none⟩) 1 1, .slice (some ⟨w2.heap.size, 0, none⟩) 1 1] 32)).alloc (.cells #[.int .i64 0] 3)) w' := by
  obtain ⟨W, hW⟩ : ∃ W, ((w2.alloc (.cells #[.int .i64 1, .int .i64 1, .string nul] 30)).alloc (.cells #[.slice (some ⟨w1.heap.size, 0, none⟩) 1 1, .slice (some ⟨w2.heap.size, 0, none⟩) 1 1] 32)).alloc (.cells #[.int .i64 0] 3) = W := ⟨_, rfl⟩
  rw [hW]
  have h1 := bk (heap_alloc_new w1 (.cells #[.int .i64 1, .int .i64 1, .string nul] 30)) hb2
  have g1 : W.heap[w1.heap.size]? = some (.cells #[.int .i64 1, .int .i64 1, .string nul] 30 (0, 0)) := by rw [← hW]; exact bkA (bkA (bkA h1 _) _) _
  have g2 : W.heap[w2.heap.size]? = some (.cells #[.int .i64 1, .int .i64 1, .string nul] 30 (0, 0)) := by rw [← hW]; exact bkA (bkA (heap_alloc_new _ _) _) _
  have g3 : W.heap[w2.heap.size + 1]? = some (.cells #[.slice (some ⟨w1.heap.size, 0, none⟩) 1 1, .slice (some ⟨w2.heap.size, 0, none⟩) 1 1] 32 (0, 0)) := by
    rw [← hW]
    have := heap_alloc_new (w2.alloc (.cells #[.int .i64 1, .int .i64 1, .string nul] 30)) (.cells #[.slice (some ⟨w1.heap.size, 0, none⟩) 1 1, .slice (some ⟨w2.heap.size, 0, none⟩) 1 1] 32)
    have es : (w2.alloc (.cells #[.int .i64 1, .int .i64 1, .string nul] 30)).heap.size = w2.heap.size + 1 := by simp
    rw [es] at this
    exact bkA this _
  have g4 : W.heap[w2.heap.size + 2]? = some (.cells #[.int .i64 0] 3 (0, 0)) := by
    rw [← hW]
    have := heap_alloc_new ((w2.alloc (.cells #[.int .i64 1, .int .i64 1, .string nul] 30)).alloc (.cells #[.slice (some ⟨w1.heap.size, 0, none⟩) 1 1, .slice (some ⟨w2.heap.size, 0, none⟩) 1 1] 32)) (.cells #[.int .i64 0] 3)
    have es : ((w2.alloc (.cells #[.int .i64 1, .int .i64 1, .string nul] 30)).alloc (.cells #[.slice (some ⟨w1.heap.size, 0, none⟩) 1 1, .slice (some ⟨w2.heap.size, 0, none⟩) 1 1] 32)).heap.size = w2.heap.size + 2 := by simp
    rwa [es] at this
  have vm : ∀ b, W.heap[b]? = some (.cells #[.int .i64 1, .int .i64 1, .string nul] 30 (0, 0)) → VM W (some ⟨b, 0, none⟩) 1 (fun _ => ⟨1, 1, nul⟩) := fun b hb => .inr ⟨b, 0, rfl, lt_of_blk hb, fun i hi => by
    have : i = 0 := by omega
    subst this
    obtain ⟨⟨a0, a1, a2⟩, -⟩ := cells3 hb
    exact ⟨a0, a1, a2⟩⟩
  refine factG w1.heap.size w2.heap.size _ _ W (.inr ⟨w2.heap.size + 1, 0, rfl, lt_of_blk g3, fun i hi => ?_⟩) (.inr ⟨w2.heap.size + 2, 0, rfl, lt_of_blk g4, fun i hi => ?_⟩)
  · have hi2 : i = 0 ∨ i = 1 := by have : i < 2 := hi; omega
    rcases hi2 with rfl | rfl
    · exact ⟨by simp only [World.cell?, g3]; rfl, vm _ g1⟩
    · exact ⟨by simp only [World.cell?, g3]; rfl, vm _ g2⟩
  · have : i = 0 := by omega
    subst this
    simp only [World.cell?, g4]
    rfl
set_option maxRecDepth 1000000 in
set_option maxHeartbeats 16000000 in
theorem counts_any (T : Tb) (p : Option Addr) (cp : Nat) (p2 : Option Addr) (n c2 : Nat) (c : Nat → Int) (x : Int) (w : World) (hT : TM w p T) (hI : IM w p2 n c) (hq : T.q ≤ 9223372036854775807) (hn : n ≤ 4398046511104) (hL : ∀ i, i < T.q → T.L i ≤ 9223372036854775807) (h64 : ∀ i, i < T.q → ∀ j, j < T.L i → B64 (T.v i j).n) :
    Calls Tryd.prog 3 #[.slice p T.q cp, .slice p2 n c2, .int .i64 x] w fun e w' => e = .returned (.bool true) ∧ Bw w w' := by
  have HN : Hid (∀ (m : Int) wx, Calls Tryd.prog 5 #[.int .i64 m] wx fun e w' => e = .returned (V 1 m nul) ∧ Bw wx w') := fun m wx => (rnumG_any m wx).mono (fun e w' h => ⟨h.1, h.2.below⟩)
  have HG : Hid (∀ wx, Bw w wx → Calls Tryd.prog 4 #[.slice p T.q cp, .slice p2 n c2, .int .i64 x] wx fun e w' => GO T n c x wx e w') := fun wx hb => group_any T p cp p2 n c2 c x wx (hT.next hb) (hI.next hb) hq hn hL h64
  have HT : Hid (TM w p T) := hT
  have H64 : Hid (∀ i, i < T.q → ∀ j, j < T.L i → B64 (T.v i j).n) := h64
  have mixed := mixed
  clear hT hI hL h64
  obtain ⟨q, eq⟩ : ∃ q, T.q = q := ⟨_, rfl⟩
  have HEQ : Hid (T.q = q) := eq
  rw [eq] at HG hq ⊢
  clear eq
  go_enter Tryd.func3, Tryd.ntmps3
  go_upto_region 1 with fail
  go_cut [7, 8] (fun s7 s8 wx => s8 = .nilIface ∧ ∃ g cc, s7 = .slice (some ⟨g, 0, none⟩) 1 cc ∧ Hid (g < wx.heap.size ∧ wx.cell? ⟨g, 1, none⟩ = some (.int .i64 2) ∧ wx.cell? ⟨g, 2, none⟩ = some (.int .i64 1) ∧ wx.cell? ⟨g, 3, none⟩ = some (.int .i64 2) ∧ wx.cell? ⟨g, 4, none⟩ = some (.string nul)) ∧ Hid (Bw w wx))
  case first =>
    go_wp2_with fail
    refine (HN.out 1 _).mono ?_
    rintro e w1 ⟨rfl, hb1⟩
    go_wp2_with fail
    refine (HN.out 1 _).mono ?_
    rintro e w2 ⟨rfl, hb2⟩
    have HF := factW hb2
    have HB2 : Hid (Bw w (((w2.alloc (.cells #[.int .i64 1, .int .i64 1, .string nul] 30)).alloc (.cells #[.slice (some ⟨w1.heap.size, 0, none⟩) 1 1, .slice (some ⟨w2.heap.size, 0, none⟩) 1 1] 32)).alloc (.cells #[.int .i64 0] 3))) := ((((hb1.tr (Bw.al _ _)).tr hb2).tr (Bw.al _ _)).tr (Bw.al _ _)).tr (Bw.al _ _)
    clear hb1 hb2
    go_wp2_with fail
    refine HF.mono ?_
    clear HF
    rintro e w3 ⟨g, cc, rfl, hg, a1, a2, a3, a4, hb3⟩
    have HA : Hid (g < w3.heap.size ∧ w3.cell? ⟨g, 1, none⟩ = some (.int .i64 2) ∧ w3.cell? ⟨g, 2, none⟩ = some (.int .i64 1) ∧ w3.cell? ⟨g, 3, none⟩ = some (.int .i64 2) ∧ w3.cell? ⟨g, 4, none⟩ = some (.string nul)) := ⟨hg, a1, a2, a3, a4⟩
    have HB3 : Hid (Bw w w3) := HB2.out.tr hb3
    clear hg a1 a2 a3 a4 hb3 HB2
    go_wp2_with fail
    go_meet
    case rel => exact ⟨rfl, g, cc, rfl, HA, HB3⟩
  case rest =>
  obtain ⟨rfl, g, cc, rfl, HA, HB1⟩ := hcut
  go_upto_region 2 with fail
  go_cut [49] (fun s49 wx => s49 = .bool false ∧ Hid (Bw w wx))
  case first =>
    obtain ⟨hg, a1, a2, a3, a4⟩ := HA.out
    have b1 := fun m os => cell_at hg a1 m os
    have b2 := fun m os => cell_at hg a2 m os
    have b3 := fun m os => cell_at hg a3 m os
    have b4 := fun m os => cell_at hg a4 m os
    have hc := fun m os => rnumG_any 2 (grow (wc.drewN m) os)
    have hnq : ∀ W, (binOp BinOp.neq 30 (V 1 2 nul) (V 1 2 nul)).run Tryd.prog W = .ok (.bool false) W := fun W => by
      have := neqV 1 2 nul 1 2 nul W
      simpa using this
    have hgv := guardV
    clear hg a1 a2 a3 a4 HA
    go_quiet_grown (first | (go_at_call 5; refine Calls.grown_of (hc _ _)))
    have HB2 : Hid (Bw w (grow (wc.drewN nq) osq)) := HB1.out.tr (Gr.below ⟨nq, osq, rfl⟩)
    clear b1 b2 b3 b4 hc
    generalize grow (wc.drewN nq) osq = w2 at *
    go_wp2_with fail
    go_meet
    case rel => exact ⟨rfl, HB2⟩
  case rest =>
  obtain ⟨rfl, HB2⟩ := hcut
  have HG2 := HG.out wc HB2.out
  clear HG HB1 HA
  go_upto_region 4 with fail
  go_wp2_with fail
  refine HG2.mono ?_
  clear HG2
  rintro e w3 ⟨⟨er, v, rfl, hgf, -, hyes⟩, hb⟩
  have HB3 : Hid (Bw w w3) := HB2.out.tr hb
  have HGF : Hid (GF T n c x er) := hgf
  have HY : Hid (er = 0 → ∃ W Z gs, Bw wc W ∧ StN T n c (fun _ => false) Z ∧ Pt (alT T n c) Z (gs.map Gp.pt) ∧ GS T n c x.toNat W v gs w3) := hyes
  clear hgf hyes hb HB2
  by_cases he : er = 0
  · subst he
    rw [errV_0]
    obtain ⟨W, Z, gs, -, hst, hpt, hgs⟩ := HY.out rfl
    obtain ⟨hS, hn12, hco, hcx⟩ := HGF.out.zero
    obtain ⟨k, rfl⟩ : ∃ k : Nat, x = (k : Int) := ⟨x.toNat, by have := hcx.1; omega⟩
    rw [Int.toNat_natCast] at hgs
    obtain ⟨pg, cg, rfl⟩ := hgs.form
    have HST : Hid (StN T n c (fun _ => false) Z) := hst
    have HPT : Hid (Pt (alT T n c) Z (gs.map Gp.pt)) := hpt
    have HGS : Hid (GS T n c k W (.slice pg gs.length cg) gs w3) := hgs
    have HS : Hid (Snd T) := hS
    have HX : Hid (colOk T (k : Int)) := hcx
    obtain ⟨gl, hgl⟩ : ∃ gl, gs.length = gl := ⟨_, rfl⟩
    have HGL : Hid (gs.length = gl) := hgl
    rw [hgl] at HGS ⊢
    clear hst hpt hgs hS hcx hco hgl HY HGF
    go_upto_region 8 with fail
    go_cut [12] (fun s12 wx => ∃ wb bS, s12 = .pointer (some ⟨bS, 0, none⟩) ∧ wb.heap.size ≤ bS ∧ Hid (wx.heap[bS]? = some (.cells #[.int .i64 1, .int .i64 0, .string nul] 30 (0, 0))) ∧ Hid (Bw wb wx) ∧ Hid (Bw w3 wb))
    case first =>
      go_wp2_with fail
      refine (HN.out 0 _).mono ?_
      rintro e w4 ⟨rfl, hb4⟩
      have HB4 : Hid (Bw w3 w4) := hb4
      clear hb4
      go_wp2_with fail
      go_meet
      case rel => exact ⟨w4, w4.heap.size, rfl, Nat.le_refl _, heap_alloc_new _ _, Bw.al _ _, HB4⟩
    case rest =>
      obtain ⟨wb, bS, rfl, hbS, HSM, HBW, HB4⟩ := hcut
      apply_assumption
      exact tail9 T p cp q p2 n c2 c k bS pg gl cg gs Z W w wb wc HEQ (HT.out.next (HB3.out.tr HB4.out)) HS HX H64 hn12 HST HPT (HGS.out.next HB4.out) HGL HSM hbS HBW (HB3.out.tr HB4.out) _ _ _ _ _ _ _ _ _ _ _ _ _ _ _ _ _ _ _ _ _ _ _ _ _ _ _ _ _ _ _ _ _ _ _ _ _ _ _ _ _ _ _ _ _ _ _ _ _ _ _ _ _ _ _ _ _ _ _ _ _ _ _ _ _ _ _ _ _ _ _ _ _ _ _ _ _ _ _ _ _ _ _ _ _ _ _ _ _ _ _ _ _ _ _ _ _ _ _ _ _ _ _ _ _ _ _ _ _ _ _ _ _ _ _ _ _ _ _ _ _ _ _ _ _ _ _ _ _ _ _ _ _ _ _ _ _ _ _ _ _ _ _ _ _ _ _ _ _ _ _ _ _ _ _ _ _ _ _ _ _ _ _ _ _ _ _ _ _
  · rw [errV_of he]
    go_wp2_with fail
    go_ret
    exact ⟨rfl, HB3.out⟩
end Go.Proofs.YtbiikodnfaeceaaDoor.so
