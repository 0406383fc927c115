
/- piece.from at a piece that takes one byte. Conditions: a text of at most 200 bytes. -/
import Derived.Test.YtilebjcpmnclmaaDoorFmg
namespace Go.Proofs.YtilebjcpmnclmaaDoor.fw
open Go.RowKit Go.Sort
theorem at_l3 {s : ByteArray} {i : Nat} (h : i < s.size) : s.toList[i]? = some s[i] := by
  rw [ByteArray.toList_eq, Array.getElem?_toList]
  exact Array.getElem?_eq_getElem h
set_option maxRecDepth 1000000 in
set_option maxHeartbeats 4000000 in
theorem from_byte (m : Mk) (hm : m ≠ .many) (a1 : Bool) (z : UInt8) (hp : pcs m = [.bool false, .bool a1, .int .u8 (z.toNat : Int)]) (hf : ∀ c, fits m c = (a1 || (z == c))) (r : Nat → Bool) (s : ByteArray) (w : World) (hs : s.size ≤ 200) :
    Calls Tryd.prog 9 #[.agg #[.bool false, .bool a1, .int .u8 (z.toNat : Int)], .agg (bls r), .string s] w fun e w' => e = .returned (.agg (bls (nxF s.toList m r s.size))) ∧ Bw w w' := by
  obtain ⟨hz, hi⟩ := zero_of_info infoE
  have HF : Hid (∀ c, fits m c = (a1 || (z == c))) := hf
  have HP : Hid (pcs m = [.bool false, .bool a1, .int .u8 (z.toNat : Int)]) := hp
  clear hf
  go_enter Tryd.func9, Tryd.ntmps9
  go_upto_region 1 with fail
  have HW : Hid (FR w (((w.alloc (.cells #[.bool false, .bool a1, .int .u8 (z.toNat : Int)] 42)).alloc (.cells (bls r) 40)).alloc (.cells (Array.replicate 201 (.bool false)) 40)) w.heap.size (w.heap.size + 1) (w.heap.size + 1 + 1) m r (fun _ => false)) := by
    have := FR.mk3 w m r
    rw [hp] at this
    exact this
  generalize ((w.alloc (.cells #[.bool false, .bool a1, .int .u8 (z.toNat : Int)] 42)).alloc (.cells (bls r) 40)).alloc (.cells (Array.replicate 201 (.bool false)) 40) = w1 at *
  clear hp
  obtain ⟨gP, hP⟩ : ∃ g, w.heap.size = g := ⟨_, rfl⟩
  obtain ⟨gR, hR⟩ : ∃ g, w.heap.size + 1 = g := ⟨_, rfl⟩
  obtain ⟨gO, hO⟩ : ∃ g, w.heap.size + 1 + 1 = g := ⟨_, rfl⟩
  rw [hO, hR, hP] at HW
  rw [hO, hR, hP]
  clear hO hR hP
  have hc : w1.cell? ⟨gP, 0, none⟩ = some (.bool false) := by rw [HW.out.cells 0, HP.out]; rfl
  go_upto_block 0 with fail
  clear hc
  have HN : Hid (FR w (w1.alloc (.cells (Array.replicate 201 (.bool false)) 40)) gP gR gO m r (fun _ => false) ∧ BB (w1.alloc (.cells (Array.replicate 201 (.bool false)) 40)) w1.heap.size (nxF s.toList m r 0) ∧ gO < w1.heap.size) := by
    refine ⟨HW.out.next (Bw.al _ _), ?_, HW.out.ou.lt⟩
    show _ = _
    rw [nxF_zero _ _ hm, bls_none]
    exact heap_alloc_new _ _
  generalize w1.alloc (.cells (Array.replicate 201 (.bool false)) 40) = w2 at *
  generalize w1.heap.size = gN at *
  clear HW
  go_cut [] (fun wx => Hid (FR w wx gP gR gO m r (fun _ => false) ∧ BB wx gN (nxF s.toList m r s.size)))
  case first =>
    go_wp2_with fail
    go_loopw [16] (fun s16 wr => ∃ i : Nat, s16 = .int .i64 (i : Int) ∧ i ≤ s.size ∧ Hid (FR w wr gP gR gO m r (fun _ => false) ∧ BB wr gN (nxF s.toList m r i) ∧ gO < gN)) (fun s16 _ => s.size - (intOf s16).toNat)
    case atStart => exact ⟨0, rfl, Nat.zero_le _, HN⟩
    case round =>
      obtain ⟨i, rfl, hi2, HR⟩ := hrel
      by_cases hlt : i < s.size
      · have hlt' : (i : Int) < (s.size : Int) := by omega
        have hin : (i : Int) + 1 < 201 := by omega
        have hin2 : (i : Int) < 201 := by omega
        have hi0 : (0 : Int) ≤ (i : Int) := by omega
        have hi1 : (0 : Int) ≤ (i : Int) + 1 := by omega
        have hc0 := HR.out.1.rd.cell (i := i) (by omega)
        have hp1 : wr.cell? ⟨gP, 1, none⟩ = some (.bool a1) := by rw [HR.out.1.cells 1, HP.out]; rfl
        have hp2 : wr.cell? ⟨gP, 2, none⟩ = some (.int .u8 (z.toNat : Int)) := by rw [HR.out.1.cells 2, HP.out]; rfl
        have hf := HR.out.2.1.froz (i + 1)
        have hcn := HR.out.2.1.cell (i := i + 1) (by omega)
        have hnx := nxF_next s.toList m hm r (at_l3 hlt)
        rw [HF.out] at hnx
        have HE : Hid (∀ wy, (∃ wx, FR w wx gP gR gO m r (fun _ => false) ∧ BB wx gN (nxF s.toList m r i) ∧ wy = wx.setCell ⟨gN, i + 1, none⟩ (.bool (r i && (a1 || (z == s[i]))))) → FR w wy gP gR gO m r (fun _ => false) ∧ BB wy gN (nxF s.toList m r (i + 1)) ∧ gO < gN) := by
          rintro wy ⟨wx, h1, h2, rfl⟩
          have e0 := h1.h0
          have e1 := h1.h1
          have e2 := h1.h2
          have e3 := HR.out.2.2
          refine ⟨⟨?_, h1.rd.other (by show gR ≠ gN; omega) _, h1.ou.other (by show gO ≠ gN; omega) _, h1.bw.setCell (by show w.heap.size ≤ gN; omega) _, e0, e1, e2⟩, by rw [← hnx]; exact h2.set _ _, e3⟩
          rw [heap_setCell_other _ _ _ _ (by show gP ≠ gN; omega)]
          exact h1.pc
        clear hnx
        obtain ⟨b0, e0⟩ : ∃ b, r i = b := ⟨_, rfl⟩
        obtain ⟨c, ec⟩ : ∃ c, s[i] = c := ⟨_, rfl⟩
        rw [e0] at hc0 HE
        rw [ec] at HE
        have HEC : Hid (s[i] = c) := ec
        clear e0
        have HRR : Hid (FR w wr gP gR gO m r (fun _ => false) ∧ BB wr gN (nxF s.toList m r i)) := ⟨HR.out.1, HR.out.2.1⟩
        clear HR
        cases b0
        · go_upto_region 7 with fail
          go_region
          go_wp2_with fail
          exact ⟨⟨i + 1, rfl, hlt, HE.out _ ⟨wr.drew, ⟨HRR.out.1.pc, HRR.out.1.rd, HRR.out.1.ou, HRR.out.1.bw.drew, HRR.out.1.h0, HRR.out.1.h1, HRR.out.1.h2⟩, HRR.out.2, rfl⟩⟩, by simp [intOf]; omega⟩
        · cases a1
          · by_cases hq : z = c
            · have hq1 : (z == c) = true := by rw [hq]; simp
              have hq2 : (z.toNat : Int) = (c.toNat : Int) := by rw [hq]
              rw [hq1] at HE
              clear hq1 hq
              go_upto_region 7 with fail
              go_region
              go_wp2_with fail
              exact ⟨⟨i + 1, rfl, hlt, HE.out _ ⟨wr.drew, ⟨HRR.out.1.pc, HRR.out.1.rd, HRR.out.1.ou, HRR.out.1.bw.drew, HRR.out.1.h0, HRR.out.1.h1, HRR.out.1.h2⟩, HRR.out.2, rfl⟩⟩, by simp [intOf]; omega⟩
            · have hq1 : (z == c) = false := by simp [hq]
              have hq2 : ¬ (z.toNat : Int) = (c.toNat : Int) := fun e => hq (UInt8.toNat_inj.1 (by omega))
              have hq3 : ((z.toNat : Int) == (c.toNat : Int)) = false := by simpa using hq2
              rw [hq1] at HE
              clear hq1 hq
              go_upto_region 7 with fail
              go_region
              go_wp2_with fail
              exact ⟨⟨i + 1, rfl, hlt, HE.out _ ⟨wr.drew, ⟨HRR.out.1.pc, HRR.out.1.rd, HRR.out.1.ou, HRR.out.1.bw.drew, HRR.out.1.h0, HRR.out.1.h1, HRR.out.1.h2⟩, HRR.out.2, by first | rfl | (rw [hq3]; rfl)⟩⟩, by simp [intOf]; omega⟩
          · go_upto_region 7 with fail
            go_region
            go_wp2_with fail
            exact ⟨⟨i + 1, rfl, hlt, HE.out _ ⟨wr.drew, ⟨HRR.out.1.pc, HRR.out.1.rd, HRR.out.1.ou, HRR.out.1.bw.drew, HRR.out.1.h0, HRR.out.1.h1, HRR.out.1.h2⟩, HRR.out.2, rfl⟩⟩, by simp [intOf]; omega⟩
      · have hlt' : ¬ (i : Int) < (s.size : Int) := by omega
        have e : i = s.size := by omega
        subst e
        go_wp2_with fail
        go_meet
        case rel => exact ⟨HR.out.1, HR.out.2.1⟩
  case rest =>
  have HC := hcut
  clear hcut
  apply_assumption
  go_wp2_with fail
  refine wp_load_row 40 _ rfl gN rfl 40 (bls (nxF s.toList m r s.size)) (0, 0) _ HC.out.2 Tryd.underlying40 rfl (by rw [bls_size]; exact hi) ?_
  apply_assumption
  refine wpList_store_row rfl 40 _ _ rfl gO (bls (nxF s.toList m r s.size)) rfl rfl 40 _ HC.out.1.ou (by rw [bls_size]; exact hi) (by rw [bls_size, bls_size]) (bls_one _) ?_
  go_wp2_with fail
  refine bodyPost_ret (v := .agg (bls (nxF s.toList m r s.size))) ?_ rfl ⟨rfl, ?_⟩
  · exact results_cell_row (p := 6) (ty := 40) rfl _ _ gO 40 _ (0, 0) _ rfl (HC.out.1.ou.row _) Tryd.underlying40 rfl (by rw [bls_size]; exact hi)
  · have h1 := HC.out.1.h0
    have h2 := HC.out.1.h1
    have h3 := HC.out.1.h2
    exact bl_row HC.out.1.bw (by omega) _
theorem onF_stp (s : List UInt8) (r : Nat → Bool) (n : Nat) {i : Nat} (h : i ≤ n) : onF r n i = stp s .many r i := by simp [onF, h, stp]
theorem nxF_stp (s : List UInt8) (p : Mk) (r : Nat → Bool) (n : Nat) {i : Nat} (h : i ≤ n) : nxF s p r n i = stp s p r i := by simp [nxF, h]
/-- What is reached behind any piece. -/
theorem from_any (m : Mk) (r : Nat → Bool) (s : ByteArray) (w : World) (hs : s.size ≤ 200) :
    Calls Tryd.prog 9 #[.agg (pcs m).toArray, .agg (bls r), .string s] w fun e w' => ∃ r', e = .returned (.agg (bls r')) ∧ (∀ i, i ≤ s.size → r' i = stp s.toList m r i) ∧ Bw w w' := by
  cases m with
  | many => exact (from_many r s w hs).mono fun e w' ⟨h1, h2⟩ => ⟨_, h1, fun i h => onF_stp _ r _ h, h2⟩
  | one => exact (from_byte .one (by simp) true 0 rfl (fun c => by simp [fits]) r s w hs).mono fun e w' ⟨h1, h2⟩ => ⟨_, h1, fun i h => nxF_stp _ _ r _ h, h2⟩
  | byte b => exact (from_byte (.byte b) (by simp) false b rfl (fun c => by simp [fits]) r s w hs).mono fun e w' ⟨h1, h2⟩ => ⟨_, h1, fun i h => nxF_stp _ _ r _ h, h2⟩
end Go.Proofs.YtilebjcpmnclmaaDoor.fw
