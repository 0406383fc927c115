
/- find.onFrom and piece.from: what is reached behind one more piece. Conditions: a text of at most 200 bytes. -/
import Derived.Test.YtilebjcpmnclmaaDoorFme
import Derived.Laws.ResultCell
namespace Go.Proofs.YtilebjcpmnclmaaDoor.fw
open Go.RowKit Go.Sort
/-- What onFrom has done behind its n-th round. -/
def onF (r : Nat → Bool) (n : Nat) : Nat → Bool := fun i => if i ≤ n then upto r i else r i
theorem onF_zero (r : Nat → Bool) : onF r 0 = r := by
  funext i
  unfold onF
  by_cases h : i ≤ 0
  · have : i = 0 := by omega
    subst this
    simp [upto]
  · simp [h]
theorem onF_next (r : Nat → Bool) (n : Nat) : upd (onF r n) (n + 1) (onF r n (n + 1) || onF r n n) = onF r (n + 1) := by
  funext i
  unfold upd
  by_cases h : i = n + 1
  · subst h
    have h1 : ¬ n + 1 ≤ n := by omega
    simp [onF, h1, upto, Bool.or_comm]
  · by_cases h2 : i ≤ n
    · have h3 : i ≤ n + 1 := by omega
      simp [onF, h, h2, h3]
    · have h3 : ¬ i ≤ n + 1 := by omega
      simp [onF, h, h2, h3]
theorem BB.set {w : World} {g : Nat} {r : Nat → Bool} (h : BB w g r) (k : Nat) (b : Bool) : BB (w.setCell ⟨g, k, none⟩ (.bool b)) g (upd r k b) := by
  show _ = _
  rw [heap_setCell_same w g k _ _ _ h, bls_set]
theorem BB.other {w : World} {g : Nat} {r : Nat → Bool} (h : BB w g r) {a : Addr} (hne : g ≠ a.block) (v : Value) : BB (w.setCell a v) g r := by
  show _ = _
  rw [heap_setCell_other w a g v hne]
  exact h
theorem BB.froz {w : World} {g : Nat} {r : Nat → Bool} (h : BB w g r) (i : Nat) : w.frozen? ⟨g, i, none⟩ = false := by
  have h' : w.heap[g]? = some (.cells (bls r) 40) := h
  simp [World.frozen?, h']
theorem BB.row {w : World} {g : Nat} {r : Nat → Bool} (h : BB w g r) (r' : Nat → Bool) : BB (w.setRow g (bls r')) g r' := setRow_heap w g _ _ _ _ h
theorem BB.orow {w : World} {g : Nat} {r : Nat → Bool} (h : BB w g r) {k : Nat} (hne : g ≠ k) (cs : Array Value) : BB (w.setRow k cs) g r := by
  show _ = _
  rw [setRow_other w k g cs hne]
  exact h
theorem bl_row {B : Nat} {a w : World} (h : Below B a w) {g : Nat} (hg : B ≤ g) (cs : Array Value) : Below B a (w.setRow g cs) :=
  ⟨h.os, h.tape, h.output, by rw [size_setRow]; exact h.size, fun k hk => by rw [setRow_other w g k cs (by omega)]; exact h.block k hk⟩
set_option maxRecDepth 1000000 in
set_option maxHeartbeats 4000000 in
theorem onFrom_any (r : Nat → Bool) (s : ByteArray) (w : World) (hs : s.size ≤ 200) :
    Calls Tryd.prog 11 #[.agg (bls r), .string s] w fun e w' => e = .returned (.agg (bls (onF r s.size))) ∧ Bw w w' := by
  obtain ⟨hz, hi⟩ := zero_of_info infoE
  go_enter Tryd.func11, Tryd.ntmps11
  go_upto_block 0 with fail
  have HW : Hid (BB ((w.alloc (.cells (bls r) 40)).alloc (.cells (Array.replicate 201 (.bool false)) 40)) w.heap.size r ∧ BB ((w.alloc (.cells (bls r) 40)).alloc (.cells (Array.replicate 201 (.bool false)) 40)) (w.heap.size + 1) (fun _ => false) ∧ Bw w ((w.alloc (.cells (bls r) 40)).alloc (.cells (Array.replicate 201 (.bool false)) 40))) := by
    refine ⟨?_, ?_, (Bw.al _ _).tr (Bw.al _ _)⟩
    · exact BB.next (show BB (w.alloc (.cells (bls r) 40)) w.heap.size r from heap_alloc_new w _) (Bw.al _ _)
    · show _ = _
      rw [bls_none]
      have := heap_alloc_new (w.alloc (.cells (bls r) 40)) (.cells (Array.replicate 201 (.bool false)) 40)
      rwa [World.size_alloc] at this
  generalize (w.alloc (.cells (bls r) 40)).alloc (.cells (Array.replicate 201 (.bool false)) 40) = w1 at *
  obtain ⟨gA, hA⟩ : ∃ g, w.heap.size = g := ⟨_, rfl⟩
  obtain ⟨gB, hB⟩ : ∃ g, w.heap.size + 1 = g := ⟨_, rfl⟩
  rw [hB] at HW ⊢
  rw [hA] at HW ⊢
  have HA : Hid (w.heap.size = gA) := hA
  have HBn : Hid (gA + 1 = gB) := by rw [← hA]; exact hB
  clear hA hB
  go_cut [] (fun wx => Hid (BB wx gA (onF r s.size) ∧ BB wx gB (fun _ => false) ∧ Bw w wx))
  case first =>
    go_wp2_with fail
    go_loopw [8] (fun s8 wr => ∃ i : Nat, s8 = .int .i64 (i : Int) ∧ i ≤ s.size ∧ Hid (BB wr gA (onF r i) ∧ BB wr gB (fun _ => false) ∧ Bw w wr)) (fun s8 _ => s.size - (intOf s8).toNat)
    case atStart => exact ⟨0, rfl, Nat.zero_le _, by rw [onF_zero]; exact HW⟩
    case round =>
      obtain ⟨i, rfl, hi2, HR⟩ := hrel
      by_cases hlt : i < s.size
      · have hlt' : (i : Int) < (s.size : Int) := by omega
        have hin : (i : Int) + 1 < 201 := by omega
        have hin2 : (i : Int) < 201 := by omega
        have hi0 : (0 : Int) ≤ (i : Int) := by omega
        have hi1 : (0 : Int) ≤ (i : Int) + 1 := by omega
        have hc0 := HR.out.1.cell (i := i) (by omega)
        have hc1 := HR.out.1.cell (i := i + 1) (by omega)
        have hf := HR.out.1.froz (i + 1)
        have hnx := onF_next r i
        obtain ⟨b0, e0⟩ : ∃ b, onF r i i = b := ⟨_, rfl⟩
        obtain ⟨b1, e1⟩ : ∃ b, onF r i (i + 1) = b := ⟨_, rfl⟩
        rw [e0] at hc0 hnx
        rw [e1] at hc1 hnx
        have HE : Hid (BB (wr.setCell ⟨gA, i + 1, none⟩ (.bool (b1 || b0))) gA (onF r (i + 1)) ∧ BB (wr.setCell ⟨gA, i + 1, none⟩ (.bool (b1 || b0))) gB (fun _ => false) ∧ Bw w (wr.setCell ⟨gA, i + 1, none⟩ (.bool (b1 || b0)))) := by
          have hx := HBn.out
          have hy := HA.out
          refine ⟨by rw [← hnx]; exact HR.out.1.set _ _, HR.out.2.1.other (by show gB ≠ gA; omega) _, HR.out.2.2.setCell (by show w.heap.size ≤ gA; omega) _⟩
        clear HR hnx e0 e1
        cases b1
        · go_wp2_with fail
          exact ⟨⟨i + 1, rfl, hlt, HE⟩, by simp [intOf]; omega⟩
        · go_wp2_with fail
          exact ⟨⟨i + 1, rfl, hlt, HE⟩, by simp [intOf]; omega⟩
      · have hlt' : ¬ (i : Int) < (s.size : Int) := by omega
        have e : i = s.size := by omega
        subst e
        go_wp2_with fail
        go_meet
        case rel => exact HR
  case rest =>
  have HC := hcut
  clear hcut
  apply_assumption
  go_wp2_with fail
  refine wp_load_row 40 _ rfl gA rfl 40 (bls (onF r s.size)) (0, 0) _ HC.out.1 Tryd.underlying40 rfl (by rw [bls_size]; exact hi) ?_
  apply_assumption
  refine wpList_store_row rfl 40 _ _ rfl gB (bls (onF r s.size)) rfl rfl 40 _ HC.out.2.1 (by rw [bls_size]; exact hi) (by rw [bls_size, bls_size]) (bls_one _) ?_
  go_wp2_with fail
  refine bodyPost_ret (v := .agg (bls (onF r s.size))) ?_ rfl ⟨rfl, ?_⟩
  · exact results_cell_row (p := 4) (ty := 40) rfl _ _ gB 40 _ (0, 0) _ rfl (HC.out.2.1.row _) Tryd.underlying40 rfl (by rw [bls_size]; exact hi)
  · have hx := HBn.out
    have hy := HA.out
    exact bl_row HC.out.2.2 (by omega) _
end Go.Proofs.YtilebjcpmnclmaaDoor.fw
