
/- The reference's call by name, with arguments. Conditions: as the theorem says. -/
import Derived.Test.YtomgjjngkffbbaaGreatDoorRkd
import Derived.Deep.QuietTactic
import Derived.BigQuiet
namespace Go.Proofs.YtomgjjngkffbbaaGreatDoor.fm
open Go.RowKit
section
variable {s : ByteArray} (hs : s.size ≤ 200)
include hs
set_option maxRecDepth 100000 in
set_option maxHeartbeats 16000000 in
theorem rcall_some (pb k d : Nat) (wr0 : Int) (name : ByteArray) (w : World) (h : PD w pb s k wr0 0 (d + 1)) (hk : k < s.size) (hd : d ≤ 30) (h41 : nx s (skip s (k + 1)) ≠ 41)
    (hex : ∀ j w1, k < j → j ≤ s.size → PD w1 pb s j wr0 0 (d + 1) → Calls Tryz.prog 53 #[ptr pb, .int .i64 1] w1 (OutR w1 pb s (d + 1) wr0 (Expr lexP s 1 (d + 1) j))) :
    Calls Tryz.prog 93 #[ptr pb, .string name] w (OutR w pb s d wr0 ((Args lexP s (d + 1) (k + 1)).bind fun l k' => .ok (tCall name l) k')) := by
  have HEX : Hid (∀ j w1, k < j → j ≤ s.size → PD w1 pb s j wr0 0 (d + 1) → Calls Tryz.prog 53 #[ptr pb, .int .i64 1] w1 (OutR w1 pb s (d + 1) wr0 (Expr lexP s 1 (d + 1) j))) := hex
  clear hex
  obtain ⟨RR, hRR⟩ : ∃ RR, (Args lexP s (d + 1) (k + 1)).bind (fun l k' => .ok (tCall name l) k') = RR := ⟨_, rfl⟩
  rw [hRR]
  have HRR : Hid (XR lexP s (d + 1) name [] (k + 1) = RR) := by
    unfold Hid
    rw [← hRR, Args_eq lexP s (d + 1) (k + 1) hk, if_neg h41]
    unfold XR
    rw [Arg_skip lexP s (a := skip s (k + 1)) (b := k + 1) ((skip_spec s (k + 1)).2.2 hk) hk (skip_skip s (k + 1))]
    rfl
  clear hRR
  have hlt := h.lt
  obtain ⟨⟨c0, c1, c2, c3, c4⟩, f0, f1, f2, f3, f4⟩ := h.cells
  go_enter Tryz.func93, Tryz.ntmps93
  go_upto_region 3 with fail
  clear c0 c1 c2 c3 c4 f0 f1 f2 f3 f4
  rw [show ((k : Int) + 1) = ((k + 1 : Nat) : Int) from rfl]
  have hP1 := h.setAt (k + 1)
  have hK1 := kpset w pb 1 (.int .i64 ((k + 1 : Nat) : Int))
  have hsz1 : (w.setCell ⟨pb, 1, none⟩ (.int .i64 ((k + 1 : Nat) : Int))).heap.size = w.heap.size := by simp [World.setCell]
  generalize w.setCell ⟨pb, 1, none⟩ (.int .i64 ((k + 1 : Nat) : Int)) = v1 at *
  have hPa := (hP1.alloc (.cells NZ 77)).alloc (.cells (N12 9 0 name .z .z (.slice none 0 0)) 77)
  have hKa : Kp (· = pb) w ((v1.alloc (.cells NZ 77)).alloc (.cells (N12 9 0 name .z .z (.slice none 0 0)) 77)) := (hK1.alloc _).alloc _
  have hra : ((v1.alloc (.cells NZ 77)).alloc (.cells (N12 9 0 name .z .z (.slice none 0 0)) 77)).heap[w.heap.size]? = some (.cells NZ 77 (0, 0)) := by rw [Below.heap_alloc _ _ _ (by simp; omega), ← hsz1]; exact blk_new _ _
  have hna : ((v1.alloc (.cells NZ 77)).alloc (.cells (N12 9 0 name .z .z (.slice none 0 0)) 77)).heap[w.heap.size + 1]? = some (.cells (N12 9 0 name .z .z (.slice none 0 0)) 77 (0, 0)) := by
    have := blk_new (v1.alloc (.cells NZ 77)) (.cells (N12 9 0 name .z .z (.slice none 0 0)) 77)
    simpa [hsz1] using this
  have hsa : ((v1.alloc (.cells NZ 77)).alloc (.cells (N12 9 0 name .z .z (.slice none 0 0)) 77)).heap.size = w.heap.size + 2 := by simp [hsz1]
  generalize ((v1.alloc (.cells NZ 77)).alloc (.cells (N12 9 0 name .z .z (.slice none 0 0)) 77)) = wa at *
  have HSA : Hid (wa.heap.size = w.heap.size + 2) := hsa
  clear hP1 hK1 hsz1 hsa
  have hk1 : k + 1 ≤ s.size := hk
  have HT : Hid (∀ w, Calls Tryz.prog 54 #[.string s, .int .i64 ((k + 1 : Nat) : Int)] w fun e w' => e = .returned (KV (tkR s (k + 1)).kind ((tkR s (k + 1)).a : Nat) ((tkR s (k + 1)).e : Nat) (tkR s (k + 1)).t) ∧ Below w.heap.size w w') := fun w => token_at s (k + 1) w hs hk1
  have HBY : Hid _ := tk_byte s (k + 1) 41 (.inr (.inl rfl)) hk1
  generalize tkR s (k + 1) = tk0 at *
  obtain ⟨⟨c0, c1, c2, c3, c4⟩, f0, f1, f2, f3, f4⟩ := hPa.cells
  go_cut [6] (fun s6 wx => ∃ kb, s6 = ptr kb ∧ KS wa tk0 kb wx)
  case first =>
    have hlt0 := hPa.lt
    have hne : wa.heap.size ≠ pb := by omega
    have hne' : pb ≠ wa.heap.size := by omega
    have KK : Hid (∀ wx, Below wa.heap.size wa wx → wx.cell? ⟨pb, 0, none⟩ = some (.string s) ∧ wx.cell? ⟨pb, 1, none⟩ = some (.int .i64 ((k + 1 : Nat) : Int))) := fun wx hb => ⟨(hb.cell (p := ⟨pb, 0, none⟩) hlt0).trans c0, (hb.cell (p := ⟨pb, 1, none⟩) hlt0).trans c1⟩
    clear c0 c1 c2 c3 c4 f0 f1 f2 f3 f4
    go_region_held3 (fun wx => wx.cell? ⟨pb, 0, none⟩ = some (.string s) ∧ wx.cell? ⟨pb, 1, none⟩ = some (.int .i64 ((k + 1 : Nat) : Int))) (exact KK.out _ (by (repeat (first | exact Below.refl _ _ | assumption | (refine Below.setCell ?_ (by first | exact Nat.le_refl _ | omega) _) | (refine Below.alloc ?_ (by first | exact Nat.le_refl _ | exact hb'.size | omega | (simp <;> omega)) _) | (refine Below.drew ?_))))) ((go_at_call 54; refine (HT.out _).mono ?_; rintro e w1 ⟨rfl, hb⟩; have hb' : Below wa.heap.size wa w1 := (by first | exact kb1 hb | exact kb2 hb); first | (have hz := kz_a hb; have hz4 := cells4f hz; obtain ⟨⟨z0, z1, z2, z3⟩, y0, y1, y2, y3⟩ := hz4) | skip))
    all_goals
      go_wp2_with fail
      go_meet
      case rel => first | exact ⟨_, rfl, ks3 hb⟩ | exact ks2 hb (Q := fun W => ∃ kb, _ = ptr kb ∧ KS wa tk0 kb W) (fun w2 h2 => ⟨_, rfl, h2⟩)
  case rest =>
  obtain ⟨kb, rfl, hS⟩ := hcut
  clear c0 c1 c2 c3 c4 f0 f1 f2 f3 f4 HT
  have hlo := hS.lo
  have hsa := HSA.out
  have hPc : PD wc pb s (k + 1) wr0 0 (d + 1) := hPa.below hS.below
  have hrc : wc.heap[w.heap.size]? = some (.cells NZ 77 (0, 0)) := by rw [hS.below.block _ (by omega)]; exact hra
  have hnc : wc.heap[w.heap.size + 1]? = some (.cells (N12 9 0 name .z .z (.slice none 0 0)) 77 (0, 0)) := by rw [hS.below.block _ (by omega)]; exact hna
  have hKc : Kp (· = pb) w wc := hKa.below hS.below
  have hkp : kb ≠ pb := by omega
  have hkw : w.heap.size + 2 ≤ kb := by omega
  have hkr : kb ≠ w.heap.size := by omega
  have hkn : kb ≠ w.heap.size + 1 := by omega
  have hkc := hS.blk
  clear hra hna hPa hKa hS hsa hlo HSA
  obtain ⟨⟨z0, z1, z2, z3⟩, y0, y1, y2, y3⟩ := cells4f hkc
  go_upto_region 4 with fail
  have HN41 : Hid (¬ (tk0.kind = 4 ∧ (tk0.t.toList == [41]) = true)) := fun q => h41 (HBY.out.1.1 q)
  clear HBY h41
  go_cut [38] (fun s38 wx => s38 = .bool false ∧ wc = wx)
  case first =>
    by_cases c4 : tk0.kind = 4
    · have hx : (tk0.t.toList == [41]) = false := by
        cases hq : (tk0.t.toList == [41]) with
        | true => exact absurd ⟨c4, hq⟩ HN41.out
        | false => rfl
      have hc' : (tk0.kind == 4) = true := beq_iff_eq.2 c4
      clear c4 HN41
      go_wp2_with fail
      go_meet
      case rel => exact ⟨rfl, rfl⟩
    · have hc' : (tk0.kind == 4) = false := beq_eq_false_iff_ne.2 c4
      clear c4 HN41
      go_wp2_with fail
      go_meet
      case rel => exact ⟨rfl, rfl⟩
  case rest =>
  obtain ⟨rfl, hwc⟩ := hcut
  subst hwc
  clear HN41 z0 z1 z2 z3 y0 y1 y2 y3
  go_wp2_with fail
  obtain ⟨wl, rfl⟩ : ∃ wl, wl = wc := ⟨_, rfl⟩
  have hwl : w.heap.size + 2 ≤ wl.heap.size := by have := lt_blk hnc; omega
  have hkl : kb < wl.heap.size := lt_blk hkc
  have hpl : pb < wl.heap.size := hPc.lt
  have hCR : CR w wl pb kb s name d k wr0 RR wl := ⟨_, [], [], k + 1, tk0, hrc, hnc, hkc, hPc, hk1, by omega, by simp, .inl ⟨rfl, rfl, rfl⟩, Kp.refl _ _, fun e w' hh => by rw [← HRR.out]; exact hh⟩
  have hKl := hKc
  clear hrc hnc hkc hPc HRR hKc
  go_loopw [7, 8, 9, 10, 11, 12] (fun _ _ _ _ _ _ wr => CR w wl pb kb s name d k wr0 RR wr) (fun _ _ _ _ _ _ wr => mOf wr pb s)
  case atStart => exact hCR
  case round =>
    clear hCR tk0
    obtain ⟨sv, us, ts, j, tk0, hr, hn, hkb, hP, hj, hkj, hlen, hG, hK, hx⟩ := hrel
    have HXR : Hid (∀ e w', OutR w pb s d wr0 (XR lexP s (d + 1) name ts j) e w' → OutR w pb s d wr0 RR e w') := hx
    have HM : Hid (mOf wr pb s = s.size - skip s j + 1) := mOf_ok hP
    clear hx
    obtain ⟨⟨c0, c1, c2, c3, c4⟩, f0, f1, f2, f3, f4⟩ := hP.cells
    have hte := (tk_spec s j hj).2.2
    have HTZ : Hid ((tkR s j).t.size ≤ 200) := tk_text s j hs hj
    have HAP : Hid _ := arg_plain s j (d + 1) hj
    have HAB : Hid _ := arg_box s j (d + 1) hj
    obtain ⟨tk, htk⟩ : ∃ tk, tkR s j = tk := ⟨_, rfl⟩
    rw [htk] at hte HTZ HAP HAB
    have HTK : Hid (tkR s j = tk) := htk
    clear htk
    go_upto_region 8 with fail
    go_cut [6] (fun s6 wx => s6 = ptr kb ∧ KT wr tk kb wx)
    case first =>
      refine tok8 hs pb kb j (d + 1) wr0 0 tk0 wr hP hj hkb hkp _ _ _ _ _ _ _ _ _ _ _ _ _ _ _ _ _ _ _ _ _ _ _ _ _ _ _ _ _ _ _ _ _ _ _ _ _ _ _ _ _ _ _ _ _ _ _ _ _ _ _ _ _ _ _ _ _ _ _ _ _ _ _ _ _ _ _ _ _ _ _ _ _ _ _ _ _ _ _ _ _ _ _ _ _ _ _ _ _ _ _ _ _ _ _ _ _ _ _ _ _ _ _ _ _ _ _ _ _ _ _ _ _ _ _ _ _ _ _ _ _ _ _ _ _ _ _ _ _ _ _ _ _ _ _ _ _ _ _ _ _ _ _ _ _ _ _ _ _ _ _ _ _ _ _ _ _ _ _ _ _ _ _ _ _ _ _ _ _ _ _ ?_
      intros
      dsimp only
      go_wp2_with fail
      go_meet
      case rel => exact ⟨rfl, by rw [← HTK.out]; assumption⟩
    case rest =>
    obtain ⟨rfl, hT⟩ := hcut
    clear c0 c1 c2 c3 c4 f0 f1 f2 f3 f4
    obtain ⟨wt, rfl⟩ : ∃ wt, wt = wc := ⟨_, rfl⟩
    have hP1 := hP.keep hT.kp (fun e => hkp e.symm)
    have hr1 := hT.kp.blk hr (fun e => hkr e.symm)
    have hn1 := hT.kp.blk hn (fun e => hkn e.symm)
    have hG1 := hG.next hT.kp (fun n e => by left; omega)
    have hK1 := hK.trans hT.kp (fun n e => .inl (.inr (.inr e)))
    have hkb1 := hT.blk
    clear hP hr hn hG hK hkb hT tk0
    obtain ⟨⟨z0, z1, z2, z3⟩, y0, y1, y2, y3⟩ := cells4f hkb1
    go_wp2_with fail
    go_at_call 95
    refine (adr.rref_any tk.t _ (by have := HTZ.out; omega)).mono ?_
    rintro e w2 ⟨rfl, hb2⟩
    have HBD : Hid (boxG s tk = ((tk.kind == 1) && (adr.rdR tk.t).ok && decide (nx s tk.e = 58))) := rfl
    have HRF : Hid (rfOf tk.t = ⟨(adr.rdR tk.t).c, (adr.rdR tk.t).r, (adr.rdR tk.t).fc, (adr.rdR tk.t).fr⟩) := rfl
    generalize adr.rdR tk.t = D at *
    clear z0 z1 z2 z3 y0 y1 y2 y3
    have hw3 : Below w2.heap.size w2 ((w2.alloc (.cells #[.int .i64 D.c, .int .i64 D.r, .bool D.fc, .bool D.fr] 74)).alloc (.cells NZ 77)) := ((Below.refl _ _).alloc (Nat.le_refl _) _).alloc (by simp) _
    have hP3 := (hP1.below hb2).below hw3
    have hr3 : ((w2.alloc (.cells #[.int .i64 D.c, .int .i64 D.r, .bool D.fc, .bool D.fr] 74)).alloc (.cells NZ 77)).heap[w.heap.size]? = some (.cells NZ 77 (0, 0)) := by
      have q := lt_blk hr1
      rw [hw3.block _ (Nat.lt_of_lt_of_le q hb2.size), hb2.block _ q]; exact hr1
    have hn3 : ((w2.alloc (.cells #[.int .i64 D.c, .int .i64 D.r, .bool D.fc, .bool D.fr] 74)).alloc (.cells NZ 77)).heap[w.heap.size + 1]? = some (.cells (N12 9 0 name .z .z sv) 77 (0, 0)) := by
      have q := lt_blk hn1
      rw [hw3.block _ (Nat.lt_of_lt_of_le q hb2.size), hb2.block _ q]; exact hn1
    have hk3 : ((w2.alloc (.cells #[.int .i64 D.c, .int .i64 D.r, .bool D.fc, .bool D.fr] 74)).alloc (.cells NZ 77)).heap[kb]? = some (.cells (K4 tk) 105 (0, 0)) := by
      have q := lt_blk hkb1
      rw [hw3.block _ (Nat.lt_of_lt_of_le q hb2.size), hb2.block _ q]; exact hkb1
    have hG3 := (hG1.below hb2).below hw3
    have hbt : Below wt.heap.size wt ((w2.alloc (.cells #[.int .i64 D.c, .int .i64 D.r, .bool D.fc, .bool D.fr] 74)).alloc (.cells NZ 77)) := hb2.trans (hw3.mono hb2.size)
    have HTL : Hid (wt.heap.size ≤ w2.heap.size) := hb2.size
    have hK3 := (hK1.below hb2).below hw3
    have hrf3 : ((w2.alloc (.cells #[.int .i64 D.c, .int .i64 D.r, .bool D.fc, .bool D.fr] 74)).alloc (.cells NZ 77)).heap[w2.heap.size]? = some (.cells #[.int .i64 D.c, .int .i64 D.r, .bool D.fc, .bool D.fr] 74 (0, 0)) := by rw [Below.heap_alloc _ _ _ (by simp)]; exact blk_new _ _
    have hab3 : ((w2.alloc (.cells #[.int .i64 D.c, .int .i64 D.r, .bool D.fc, .bool D.fr] 74)).alloc (.cells NZ 77)).heap[w2.heap.size + 1]? = some (.cells NZ 77 (0, 0)) := by
      have := blk_new (w2.alloc (.cells #[.int .i64 D.c, .int .i64 D.r, .bool D.fc, .bool D.fr] 74)) (.cells NZ 77)
      simpa using this
    have HZ3 : Hid (((w2.alloc (.cells #[.int .i64 D.c, .int .i64 D.r, .bool D.fc, .bool D.fr] 74)).alloc (.cells NZ 77)).heap.size = w2.heap.size + 2) := by unfold Hid; simp
    have HL2 : Hid (wl.heap.size ≤ w2.heap.size) := Nat.le_trans hK1.size hb2.size
    go_upto_region 11 with fail
    generalize ((w2.alloc (.cells #[.int .i64 D.c, .int .i64 D.r, .bool D.fc, .bool D.fr] 74)).alloc (.cells NZ 77)) = w3 at *
    generalize w2.heap.size = rfb at *
    clear hw3 hP1 hr1 hn1 hkb1 hb2
    obtain ⟨⟨c0, c1, c2, c3, c4⟩, f0, f1, f2, f3, f4⟩ := hP3.cells
    obtain ⟨⟨z0, z1, z2, z3⟩, y0, y1, y2, y3⟩ := cells4f hk3
    obtain ⟨g, hg⟩ : ∃ g, boxG s tk = g := ⟨_, rfl⟩
    rw [hg] at HBD
    have HG : Hid (boxG s tk = g) := hg
    clear hg
    obtain ⟨ok, hok⟩ : ∃ ok, D.ok = ok := ⟨_, rfl⟩
    rw [hok] at HBD ⊢
    clear hok
    go_cut [87] (fun s87 wx => s87 = .bool g ∧ Below w3.heap.size w3 wx)
    case first =>
      refine guard11 pb kb j (d + 1) wr0 0 tk ok g HBD w3 hP3 hk3 _ _ _ _ _ _ _ _ _ _ _ _ _ _ _ _ _ _ _ _ _ _ _ _ _ _ _ _ _ _ _ _ _ _ _ _ _ _ _ _ _ _ _ _ _ _ _ _ _ _ _ _ _ _ _ _ _ _ _ _ _ _ _ _ _ _ _ _ _ _ _ _ _ _ _ _ _ _ _ _ _ _ _ _ _ _ _ _ _ _ _ _ _ _ _ _ _ _ _ _ _ _ _ _ _ _ _ _ _ _ _ _ _ _ _ _ _ _ _ _ _ _ _ _ _ _ _ _ _ _ _ _ _ _ _ _ _ _ _ _ _ _ _ _ _ _ _ _ _ _ _ _ _ _ _ _ _ _ _ _ _ _ _ _ _ _ _ _ _ _ ?_
      intros
      dsimp only
      go_wp2_with fail
      go_meet
      case rel => exact ⟨rfl, by assumption⟩
    case rest =>
    obtain ⟨rfl, hb4⟩ := hcut
    clear HBD c0 c1 c2 c3 c4 f0 f1 f2 f3 f4 z0 z1 z2 z3 y0 y1 y2 y3
    have hP4 := hP3.below hb4
    have hr4 : wc.heap[w.heap.size]? = some (.cells NZ 77 (0, 0)) := by rw [hb4.block _ (lt_blk hr3)]; exact hr3
    have hn4 : wc.heap[w.heap.size + 1]? = some (.cells (N12 9 0 name .z .z sv) 77 (0, 0)) := by rw [hb4.block _ (lt_blk hn3)]; exact hn3
    have hk4 : wc.heap[kb]? = some (.cells (K4 tk) 105 (0, 0)) := by rw [hb4.block _ (lt_blk hk3)]; exact hk3
    have hrf4 : wc.heap[rfb]? = some (.cells #[.int .i64 D.c, .int .i64 D.r, .bool D.fc, .bool D.fr] 74 (0, 0)) := by rw [hb4.block _ (lt_blk hrf3)]; exact hrf3
    have hab4 : wc.heap[rfb + 1]? = some (.cells NZ 77 (0, 0)) := by rw [hb4.block _ (lt_blk hab3)]; exact hab3
    have hG4 := hG3.below hb4
    have hbt4 : Below wt.heap.size wt wc := hbt.trans (hb4.mono hbt.size)
    have hK4 := hK3.below hb4
    have HS4 : Hid (rfb + 2 ≤ wc.heap.size) := by have := hb4.size; have := HZ3.out; unfold Hid; omega
    have HL4 := HL2.out
    clear hP3 hr3 hn3 hk3 hrf3 hab3 hG3 hK3 HZ3 HL2 hb4 hbt
    obtain ⟨w4, rfl⟩ : ∃ w4, w4 = wc := ⟨_, rfl⟩
    have hap : rfb + 1 ≠ pb := by omega
    go_upto_if 87 with fail
    go_cut [10, 11, 12] (fun _ _ _ wx => JR w4 pb (rfb + 1) s (d + 1) wr0 (Arg lexP s (d + 1) j) wx)
    case first =>
      cases g with
      | false =>
        refine loose_arm pb (rfb + 1) j (d + 1) wr0 (Arg lexP s (d + 1) j) w4 (fun w1 hP => by rw [HAP.out HG.out]; exact HEX.out j w1 hkj hj hP) hP4 hab4 hap (by have := HS4.out; omega) _ _ _ _ _ _ _ _ _ _ _ _ _ _ _ _ _ _ _ _ _ _ _ _ _ _ _ _ _ _ _ _ _ _ _ _ _ _ _ _ _ _ _ _ _ _ _ _ _ _ _ _ _ _ _ _ _ _ _ _ _ _ _ _ _ _ _ _ _ _ _ _ _ _ _ _ _ _ _ _ _ _ _ _ _ _ _ _ _ _ _ _ _ _ _ _ _ _ _ _ _ _ _ _ _ _ _ _ _ _ _ _ _ _ _ _ _ _ _ _ _ _ _ _ _ _ _ _ _ _ _ _ _ _ _ _ _ _ _ _ _ _ _ _ _ _ _ _ _ _ _ _ _ _ _ _ _ _ _ _ _ _ _ _ _ _ _ _ _ _ ?_
        intros
        dsimp only
        go_wp2_with fail
        go_meet
        case rel => assumption
      | true =>
        obtain ⟨hb1, hb2, hb3⟩ := HAB.out HG.out
        refine box_arm hs pb kb rfb j d wr0 tk D HRF _ _ _ _ _ _ _ _ _ _ _ _ _ _ _ _ _ _ _ _ _ _ _ _ _ _ _ _ _ _ _ _ _ _ _ _ _ _ _ _ _ _ _ _ _ _ _ _ _ _ _ _ _ _ _ _ _ _ _ _ _ _ _ _ _ _ _ _ _ _ _ _ _ _ _ _ _ _ _ _ _ _ _ _ _ _ _ _ _ _ _ _ _ _ _ _ _ _ _ _ _ _ _ _ _ _ _ _ _ _ _ _ _ _ _ _ _ _ _ _ _ _ _ _ _ _ _ _ _ _ _ _ _ _ _ _ _ _ _ _ _ _ _ _ _ _ _ _ _ _ _ _ _ _ _ _ _ _ _ _ _ _ _ _ _ _ w4 hP4 hk4 hrf4 hab4 HS4 hap (by omega) hb1 hb2 hb3 _ _ ?_
        intros
        dsimp only
        go_wp2_with fail
        go_meet
        case rel => assumption
    case rest =>
    obtain ⟨a1, n1, s1, r1, t1, p1, m1, e1, u, j5, wr', bd, hab5, hN5, hP5, hj5, hK5, hX⟩ := hcut
    have HX2 : Hid _ := hX
    clear hX
    obtain ⟨w5, rfl⟩ : ∃ w5, w5 = wc := ⟨_, rfl⟩
    have q4 := HS4.out
    have hr5 := hK5.blk hr4 (by omega)
    have hn5 := hK5.blk hn4 (by omega)
    have hk5 := hK5.blk hk4 (by omega)
    have hKt5 : Kp (· = pb) wt w5 := Kp.trans ((Kp.refl (· = pb) wt).below hbt4) hK5 (fun n e => by
      have := HTL.out
      omega)
    have hG5 := hG1.next hKt5 (fun n e => by left; omega)
    have hKw5 := hK4.trans hK5 (fun n e => by omega)
    have HL5 : Hid (w4.heap.size ≤ w5.heap.size) := hK5.size
    have HLT : Hid (wl.heap.size ≤ w4.heap.size) := by unfold Hid; omega
    clear hKt5 hr4 hn4 hk4 hrf4 hab4 hP4 hK4 hbt4 hK5 HS4 q4
    obtain ⟨p0, m0, c0', rfl⟩ := hG5.slice
    have hKa : Kp (fun _ => False) w5 (w5.alloc (.cells (N12 a1 n1 s1 r1 t1 (.slice p1 m1 e1)) 77)) := (Kp.refl _ _).alloc _
    have hr6 := hKa.blk hr5 id
    have hn6 := hKa.blk hn5 id
    have hk6 := hKa.blk hk5 id
    have hP6 := hP5.alloc (.cells (N12 a1 n1 s1 r1 t1 (.slice p1 m1 e1)) 77)
    have hG6 := hG5.next hKa (fun n e => e.elim)
    have hN6 := hN5.next hKa (fun n e => e.elim)
    have hb6 := blk_new w5 (.cells (N12 a1 n1 s1 r1 t1 (.slice p1 m1 e1)) 77)
    have hKw6 := hKw5.alloc (.cells (N12 a1 n1 s1 r1 t1 (.slice p1 m1 e1)) 77)
    obtain ⟨sv', w7, hrun, hG7, hk7⟩ := appV hG4 hG6 hN6 HLT.out (Nat.le_trans HL5.out hKa.size) hb6 (by omega)
    obtain ⟨p', m', c', rfl⟩ := hG7.slice
    have HR : Hid ((Builtin.append_ #[75, 75] 75 #[.slice p0 m0 c0', .slice (some ⟨w5.heap.size, 0, none⟩) 1 1]).run Tryz.prog (w5.alloc (.cells (N12 a1 n1 s1 r1 t1 (.slice p1 m1 e1)) 77)) = .ok (.slice p' m' c') w7) := hrun
    have hr7 := hk7.blk hr6 (by omega)
    have hn7 := hk7.blk hn6 (by omega)
    have hkb7 := hk7.blk hk6 (by omega)
    have hP7 := hP6.keep hk7 (by omega)
    have hKw7 := hKw6.trans hk7 (fun n e => .inr e)
    clear hrun hk7 hr6 hk6 hP6 hG6 hN6 hb6 hKw6 hKa hn6
    obtain ⟨⟨b0, b1, b2, b3, b4, b5, b6, b7, b8, b9, b10, b11⟩, bf⟩ := cells12 hn5
    obtain ⟨⟨d0, d1, d2, d3, d4, d5, d6, d7, d8, d9, d10, d11⟩, df⟩ := cells12 hab5
    obtain ⟨⟨g0, g1, g2, g3, g4, g5, g6, g7, g8, g9, g10, g11⟩, gf⟩ := cells12 hn7
    go_upto_region 20 with (first | (at_builtin; refine wpList_append_eq rfl _ _ 75 rfl _ _ _ _ rfl rfl HR.out ?_))
    clear b0 b1 b2 b3 b4 b5 b6 b7 b8 b9 b10 b11 bf d0 d1 d2 d3 d4 d5 d6 d7 d8 d9 d10 d11 df g0 g1 g2 g3 g4 g5 g6 g7 g8 g9 g10 g11 gf HR
    have hKs := kpset w7 (w.heap.size + 1) 11 (.slice p' m' c')
    have hn8 : (w7.setCell ⟨w.heap.size + 1, 11, none⟩ (.slice p' m' c')).heap[w.heap.size + 1]? = some (.cells (N12 9 0 name .z .z (.slice p' m' c')) 77 (0, 0)) := by rw [blk_set hn7]; rfl
    have hr8 := hKs.blk hr7 (by omega)
    have hk8 := hKs.blk hkb7 (by omega)
    have hP8 := hP7.keep hKs (by omega)
    have hG8 := hG7.next hKs (fun n e => by left; omega)
    have hKw8 := hKw7.trans hKs (fun n e => .inl (.inr (.inl e)))
    generalize w7.setCell ⟨w.heap.size + 1, 11, none⟩ (.slice p' m' c') = w8 at *
    clear hKs hn7 hr7 hkb7 hP7 hG7 hKw7 hn5 hr5 hk5 hP5 hG5 hKw5 hab5 hN5
    have hte5 := (tk_spec s j5 hj5).2.2
    have H44 : Hid _ := tk_byte s j5 44 (.inr (.inr (.inl rfl))) hj5
    obtain ⟨tk5, htk5⟩ : ∃ tk5, tkR s j5 = tk5 := ⟨_, rfl⟩
    rw [htk5] at hte5 H44
    have HTK5 : Hid (tkR s j5 = tk5) := htk5
    clear htk5
    obtain ⟨⟨c0, c1, c2, c3, c4⟩, f0, f1, f2, f3, f4⟩ := hP8.cells
    go_cut [6] (fun s6 wx => s6 = ptr kb ∧ KT w8 tk5 kb wx)
    case first =>
      refine tok20 hs pb kb j5 (d + 1) wr' bd tk w8 hP8 hj5 hk8 hkp _ _ _ _ _ _ _ _ _ _ _ _ _ _ _ _ _ _ _ _ _ _ _ _ _ _ _ _ _ _ _ _ _ _ _ _ _ _ _ _ _ _ _ _ _ _ _ _ _ _ _ _ _ _ _ _ _ _ _ _ _ _ _ _ _ _ _ _ _ _ _ _ _ _ _ _ _ _ _ _ _ _ _ _ _ _ _ _ _ _ _ _ _ _ _ _ _ _ _ _ _ _ _ _ _ _ _ _ _ _ _ _ _ _ _ _ _ _ _ _ _ _ _ _ _ _ _ _ _ _ _ _ _ _ _ _ _ _ _ _ _ _ _ _ _ _ _ _ _ _ _ _ _ _ _ _ _ _ _ _ _ _ _ _ _ _ _ _ _ _ _ ?_
      intros
      dsimp only
      go_wp2_with fail
      go_meet
      case rel => exact ⟨rfl, by rw [← HTK5.out]; assumption⟩
    case rest =>
    obtain ⟨rfl, hT9⟩ := hcut
    clear c0 c1 c2 c3 c4 f0 f1 f2 f3 f4
    obtain ⟨w9, rfl⟩ : ∃ w9, w9 = wc := ⟨_, rfl⟩
    have hP9 := hP8.keep hT9.kp (fun e => hkp e.symm)
    have hr9 := hT9.kp.blk hr8 (fun e => hkr e.symm)
    have hn9 := hT9.kp.blk hn8 (fun e => hkn e.symm)
    have hG9 := hG8.next hT9.kp (fun n e => by left; omega)
    have hKw9 := hKw8.trans hT9.kp (fun n e => .inl (.inr (.inr e)))
    have hk9 := hT9.blk
    clear hP8 hr8 hn8 hG8 hKw8 hT9 hk8
    obtain ⟨⟨c0, c1, c2, c3, c4⟩, f0, f1, f2, f3, f4⟩ := hP9.cells
    obtain ⟨⟨z0, z1, z2, z3⟩, y0, y1, y2, y3⟩ := cells4f hk9
    obtain ⟨cm, hcm⟩ : ∃ cm : Bool, cm = ((bd == 0) && (tk5.kind == 4) && (tk5.t.toList == [44])) := ⟨_, rfl⟩
    have HCM : Hid (cm = ((bd == 0) && (tk5.kind == 4) && (tk5.t.toList == [44]))) := hcm
    clear hcm
    go_upto_region 21 with fail
    go_cut [161] (fun s161 wx => s161 = .bool cm ∧ w9 = wx)
    case first =>
      refine comma21 pb kb j5 (d + 1) wr' bd tk5 cm HCM w9 hP9 hk9 _ _ _ _ _ _ _ _ _ _ _ _ _ _ _ _ _ _ _ _ _ _ _ _ _ _ _ _ _ _ _ _ _ _ _ _ _ _ _ _ _ _ _ _ _ _ _ _ _ _ _ _ _ _ _ _ _ _ _ _ _ _ _ _ _ _ _ _ _ _ _ _ _ _ _ _ _ _ _ _ _ _ _ _ _ _ _ _ _ _ _ _ _ _ _ _ _ _ _ _ _ _ _ _ _ _ _ _ _ _ _ _ _ _ _ _ _ _ _ _ _ _ _ _ _ _ _ _ _ _ _ _ _ _ _ _ _ _ _ _ _ _ _ _ _ _ _ _ _ _ _ _ _ _ _ _ _ _ _ _ _ _ _ _ _ _ _ _ _ _ _ ?_
      intros
      dsimp only
      go_wp2_with fail
      go_meet
      case rel => exact ⟨rfl, by assumption⟩
    case rest =>
    obtain ⟨rfl, hwe⟩ := hcut
    subst hwe
    have hpl9 := hP9.lt
    cases cm with
    | true =>
      have hq := HCM.out
      simp at hq
      obtain ⟨⟨hq1, hq2⟩, hq3⟩ := hq
      have h44 : nx s (skip s j5) = 44 := H44.out.1.1 ⟨hq2, by rw [hq3]; rfl⟩
      have he5 : tk5.e = skip s j5 + 1 := H44.out.2 h44
      have HQ : Hid (bd = 0 ∧ nx s (skip s j5) = 44 ∧ tk5.e = skip s j5 + 1) := ⟨hq1, h44, he5⟩
      clear HCM H44 hq1 hq2 hq3 h44 he5
      go_wp2_with fail
      have hP10 := hP9.setAt tk5.e
      have hKs := kpset w9 pb 1 (.int .i64 tk5.e)
      have hr10 := hKs.blk hr9 (by omega)
      have hn10 := hKs.blk hn9 (by omega)
      have hk10 := hKs.blk hk9 hkp
      have hG10 := hG9.next hKs (fun n e => by left; omega)
      have hKw10 := hKw9.trans hKs (fun n e => .inl (.inl e))
      obtain ⟨hq1, h44, he5⟩ := HQ.out
      have hj5s := (skip_spec s j5).1
      have hjs := (skip_spec s j).1
      rcases HX2.out with ⟨k5, hA, _, hwr, hsk⟩ | ⟨f, _, _, hb⟩
      · subst hq1
        subst hwr
        have hpg := Arg_prog lexP s hj hA
        have hmono := skip_mono (s := s) (a := j) (b := k5) (by omega)
        have hs5 := (skip_spec s k5).1
        have hse := (skip_spec s tk5.e).1
        refine ⟨⟨_, us ++ [NV a1 n1 s1 r1 t1 (.slice p1 m1 e1)], ts ++ [u], tk5.e, tk5, hr10, hn10, hk10, hP10, hte5, by omega, by simp; omega, hG10, hKw10, fun e w' hh => HXR.out _ _ ?_⟩, ?_⟩
        · rw [XR_more lexP s hA (by rw [← hsk]; exact h44) hpg.2, ← hsk, ← he5]; exact hh
        · rw [HM.out, mOf_ok hP10]; omega
      · exact absurd hq1 hb
    | false =>
      have HQ : Hid (bd = 0 → nx s (skip s j5) ≠ 44) := fun hb h44 => by
        have hq := HCM.out
        obtain ⟨h1, h2⟩ := H44.out.1.2 h44
        rw [hb, beq_iff_eq.2 h1, h2] at hq
        simp at hq
      clear HCM H44 c0 c1 c2 c3 c4 f0 f1 f2 f3 f4 z0 z1 z2 z3 y0 y1 y2 y3
      go_wp2_with fail
      go_at_call 97
      refine (rclose_any pb j5 d wr' bd s hs _ hP9 hj5 hd).mono ?_
      rintro e wA ⟨rfl, ⟨jA, wrA, bdA, hPA, hjA, hsh⟩, hKA⟩
      have HSH : Hid _ := hsh
      clear hsh
      have hrA := hKA.blk hr9 (by omega)
      have hnA := hKA.blk hn9 (by omega)
      have hGA := hG9.next hKA (fun n e => by left; omega)
      have hKwA := hKw9.trans hKA (fun n e => .inl (.inl e))
      obtain ⟨⟨g0, g1, g2, g3, g4, g5, g6, g7, g8, g9, g10, g11⟩, gf⟩ := cells12 hnA
      obtain ⟨⟨d0, d1, d2, d3, d4, d5, d6, d7, d8, d9, d10, d11⟩, df⟩ := cells12 hrA
      go_wp2_with fail
      clear g0 g1 g2 g3 g4 g5 g6 g7 g8 g9 g10 g11 gf d0 d1 d2 d3 d4 d5 d6 d7 d8 d9 d10 d11 df
      refine fin12 hrA (Q := bodyPost _ _ _ _ _) ?_
      intro wB hqB hkB
      obtain ⟨⟨b0, b1, b2, b3, b4, b5, b6, b7, b8, b9, b10, b11⟩, bf⟩ := cells12 hqB
      refine bodyPost_ret (v := NV 9 0 name .z .z (.slice p' m' c')) (by simp [results, Tryz.results93, go_sem, b0, b1, b2, b3, b4, b5, b6, b7, b8, b9, b10, b11]) rfl ?_
      have hPB := hPA.keep hkB (by omega)
      have hGB := hGA.next hkB (fun n e => by left; omega)
      have hNB : Nd wB (Own w wB) (NV 9 0 name .z .z (.slice p' m' c')) (tCall name (ts ++ [u])) := hGB.node (by omega)
      have hKB : Kp (· = pb) w wB := hKl.trans ((hKwA.mono (Y := fun b => b = pb ∨ b = w.heap.size + 1 ∨ b = kb ∨ b = w.heap.size) (fun n _ e => by omega)).trans hkB (fun n e => by left; omega)) (fun n e => by omega)
      refine HXR.out _ _ ?_
      rcases HX2.out with ⟨k5, hA, hbd, hwr, hsk⟩ | ⟨f, hA, hwr, hb⟩
      · have hpg := Arg_prog lexP s hj hA
        have hn44 := HQ.out hbd
        rcases HSH.out with ⟨hn, _⟩ | ⟨_, h41, rfl, rfl, rfl⟩ | ⟨_, h41, rfl, rfl⟩
        · exact absurd hbd hn
        · rw [XR_end lexP s hA (by rw [← hsk]; exact h41) hpg.2]
          subst hwr
          exact ⟨_, _, rfl, hNB, hPB, hjA, by rw [hsk], hKB⟩
        · rw [XR_bad lexP s hA (by rw [← hsk]; exact hn44) (by rw [← hsk]; exact h41) hpg.2, ← hsk]
          exact ⟨_, _, _, rfl, hNB, hPB, hjA, by omega, hKB⟩
      · rw [XR_err lexP s hA]
        rcases HSH.out with ⟨_, rfl, rfl⟩ | ⟨hn, _⟩ | ⟨hn, _⟩
        · subst hwr
          exact ⟨_, _, _, rfl, hNB, hPB, hjA, hb, hKB⟩
        · exact absurd hn hb
        · exact absurd hn hb
end
end Go.Proofs.YtomgjjngkffbbaaGreatDoor.fm
