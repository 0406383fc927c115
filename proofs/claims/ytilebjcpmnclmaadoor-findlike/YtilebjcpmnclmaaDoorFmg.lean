
/- piece.from: what is reached behind one more piece. Conditions: a text of at most 200 bytes. -/
import Derived.Test.YtilebjcpmnclmaaDoorFmf
namespace Go.Proofs.YtilebjcpmnclmaaDoor.fw
open Go.RowKit Go.Sort
/-- How a piece lies. -/
def pcs : Mk → List Value
  | .many => [.bool true, .bool false, .int .u8 0]
  | .one => [.bool false, .bool true, .int .u8 0]
  | .byte b => [.bool false, .bool false, .int .u8 (b.toNat : Int)]
def pL : EL Mk := ⟨42, 3, pcs, fun x => by cases x <;> rfl, fun x u hu => by cases x <;> (simp [pcs] at hu; rcases hu with rfl | rfl | rfl <;> rfl)⟩
def nxF (s : List UInt8) (p : Mk) (r : Nat → Bool) (n : Nat) : Nat → Bool := fun i => if i ≤ n then stp s p r i else false
theorem stp_zero (s : List UInt8) (p : Mk) (hp : p ≠ .many) (r : Nat → Bool) : stp s p r 0 = false := by
  cases p <;> first | rfl | exact absurd rfl hp
theorem stp_succ (s : List UInt8) (p : Mk) (hp : p ≠ .many) (r : Nat → Bool) {i : Nat} {c : UInt8} (h : s[i]? = some c) : stp s p r (i + 1) = (r i && fits p c) := by
  cases p <;> first | exact absurd rfl hp | simp [stp, h]
theorem nxF_zero (s : List UInt8) (p : Mk) (hp : p ≠ .many) (r : Nat → Bool) : nxF s p r 0 = fun _ => false := by
  funext i
  unfold nxF
  by_cases h : i ≤ 0
  · have : i = 0 := by omega
    subst this
    simp [stp_zero s p hp r]
  · simp [h]
theorem nxF_next (s : List UInt8) (p : Mk) (hp : p ≠ .many) (r : Nat → Bool) {n : Nat} {c : UInt8} (h : s[n]? = some c) : upd (nxF s p r n) (n + 1) (r n && fits p c) = nxF s p r (n + 1) := by
  funext i
  unfold upd
  by_cases h1 : i = n + 1
  · subst h1
    simp [nxF, stp_succ s p hp r h]
  · by_cases h2 : i ≤ n
    · have h3 : i ≤ n + 1 := by omega
      simp [nxF, h1, h2, h3]
    · have h3 : ¬ i ≤ n + 1 := by omega
      simp [nxF, h1, h2, h3]
/-- What from has of its own. -/
structure FR (w wx : World) (gP gR gO : Nat) (m : Mk) (r o : Nat → Bool) : Prop where
  pc : wx.heap[gP]? = some (.cells (pcs m).toArray 42)
  rd : BB wx gR r
  ou : BB wx gO o
  bw : Bw w wx
  h0 : w.heap.size = gP
  h1 : gP + 1 = gR
  h2 : gR + 1 = gO
theorem FR.mk3 (w : World) (m : Mk) (r : Nat → Bool) : FR w (((w.alloc (.cells (pcs m).toArray 42)).alloc (.cells (bls r) 40)).alloc (.cells (Array.replicate 201 (.bool false)) 40)) w.heap.size (w.heap.size + 1) (w.heap.size + 1 + 1) m r (fun _ => false) := by
  refine ⟨?_, ?_, ?_, ((Bw.al _ _).tr (Bw.al _ _)).tr (Bw.al _ _), rfl, rfl, rfl⟩
  · rw [Below.heap_alloc _ _ _ (by rw [World.size_alloc, World.size_alloc]; omega)]
    exact heap_alloc2_old _ _ _
  · have h := heap_alloc2_old (w.alloc (.cells (pcs m).toArray 42)) (.cells (bls r) 40) (.cells (Array.replicate 201 (.bool false)) 40)
    rw [World.size_alloc] at h
    exact h
  · have h := heap_alloc2_new (w.alloc (.cells (pcs m).toArray 42)) (.cells (bls r) 40) (.cells (Array.replicate 201 (.bool false)) 40)
    rw [World.size_alloc, ← bls_none] at h
    rw [← bls_none]
    exact h
theorem FR.next {w wx wy : World} {gP gR gO : Nat} {m : Mk} {r o : Nat → Bool} (h : FR w wx gP gR gO m r o) (hb : Bw wx wy) : FR w wy gP gR gO m r o :=
  ⟨by rw [hb.block gP (Array.getElem?_eq_some_iff.1 h.pc).1]; exact h.pc, h.rd.next hb, h.ou.next hb, h.bw.tr hb, h.h0, h.h1, h.h2⟩
theorem FR.cells {w wx : World} {gP gR gO : Nat} {m : Mk} {r o : Nat → Bool} (h : FR w wx gP gR gO m r o) (j : Nat) : wx.cell? ⟨gP, j, none⟩ = (pcs m)[j]? := by
  rw [cell_of_row wx gP j _ _ (0, 0) h.pc]
  simp
set_option maxRecDepth 1000000 in
set_option maxHeartbeats 4000000 in
theorem from_many (r : Nat → Bool) (s : ByteArray) (w : World) (hs : s.size ≤ 200) :
    Calls Tryd.prog 9 #[.agg #[.bool true, .bool false, .int .u8 0], .agg (bls r), .string s] w fun e w' => e = .returned (.agg (bls (onF r s.size))) ∧ Bw w w' := by
  obtain ⟨hz, hi⟩ := zero_of_info infoE
  go_enter Tryd.func9, Tryd.ntmps9
  go_upto_region 1 with fail
  have HW : Hid (FR w (((w.alloc (.cells #[.bool true, .bool false, .int .u8 0] 42)).alloc (.cells (bls r) 40)).alloc (.cells (Array.replicate 201 (.bool false)) 40)) w.heap.size (w.heap.size + 1) (w.heap.size + 1 + 1) .many r (fun _ => false)) := FR.mk3 w .many r
  generalize ((w.alloc (.cells #[.bool true, .bool false, .int .u8 0] 42)).alloc (.cells (bls r) 40)).alloc (.cells (Array.replicate 201 (.bool false)) 40) = w1 at *
  obtain ⟨gP, hP⟩ : ∃ g, w.heap.size = g := ⟨_, rfl⟩
  obtain ⟨gR, hR⟩ : ∃ g, w.heap.size + 1 = g := ⟨_, rfl⟩
  obtain ⟨gO, hO⟩ : ∃ g, w.heap.size + 1 + 1 = g := ⟨_, rfl⟩
  rw [hO, hR, hP] at HW
  rw [hO, hR, hP]
  clear hO hR hP
  have hc := HW.out.cells 0
  have hc' : w1.cell? ⟨gP, 0, none⟩ = some (.bool true) := hc
  clear hc
  go_wp2_with fail
  clear hc'
  refine wp_load_row 40 _ rfl gR rfl 40 (bls r) (0, 0) _ HW.out.rd Tryd.underlying40 rfl (by rw [bls_size]; exact hi) ?_
  apply_assumption
  go_wp2_with fail
  refine (onFrom_any r s w1 hs).mono ?_
  rintro e w2 ⟨rfl, hb⟩
  have HW2 : Hid (FR w w2 gP gR gO .many r (fun _ => false)) := HW.out.next hb
  clear hb HW
  dsimp only
  apply_assumption
  refine wpList_store_row rfl 40 _ _ rfl gO (bls (onF r s.size)) rfl rfl 40 _ HW2.out.ou (by rw [bls_size]; exact hi) (by rw [bls_size, bls_size]) (bls_one _) ?_
  go_wp2_with fail
  refine bodyPost_ret (v := .agg (bls (onF r s.size))) ?_ rfl ⟨rfl, ?_⟩
  · exact results_cell_row (p := 6) (ty := 40) rfl _ _ gO 40 _ (0, 0) _ rfl (HW2.out.ou.row _) Tryd.underlying40 rfl (by rw [bls_size]; exact hi)
  · have h1 := HW2.out.h0
    have h2 := HW2.out.h1
    have h3 := HW2.out.h2
    exact bl_row HW2.out.bw (by omega) _
end Go.Proofs.YtilebjcpmnclmaaDoor.fw
