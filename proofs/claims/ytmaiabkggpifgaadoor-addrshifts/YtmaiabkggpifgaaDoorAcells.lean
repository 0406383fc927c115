/- The cells of a box: what the reference and the program make of one. Conditions: it is a box. -/
import Derived.Test.YtmaiabkggpifgaaDoorAbox
import Derived.OwnWalk
namespace Go.Proofs.YtmaiabkggpifgaaDoor.adr
open Go.RowKit
/-- k cells of a row, and m whole rows, as the cells of memory have them. -/
def rowL (r c0 : Int) : Nat → List Value
  | 0 => []
  | k + 1 => rowL r c0 k ++ [.int .i64 (c0 + k), .int .i64 r]
def boxL (c0 r0 : Int) (wd : Nat) : Nat → List Value
  | 0 => []
  | m + 1 => boxL c0 r0 wd m ++ rowL (r0 + m) c0 wd
theorem info23 : (Tryd.prog.info? 23).map (fun i => (i.zero, i.size, i.bytes)) = some (some (C 0 0), 2, 16) := by kernel_rfl
theorem info_split {P : Program} {e : TypeId} {z : Value} {s b : Nat} (h : (P.info? e).map (fun i => (i.zero, i.size, i.bytes)) = some (some z, s, b)) : ∃ i, P.info? e = some i ∧ i.zero = some z ∧ i.size = s ∧ i.bytes = b := by
  cases hi : P.info? e with
  | none => rw [hi] at h; cases h
  | some i =>
    rw [hi] at h
    simp at h
    exact ⟨i, rfl, h.1, h.2.1, h.2.2⟩
theorem own_block {w : World} {base n : Nat} {v : Value} {xs : List Value} (h : w.ownsRow base 23 2 v n xs) {w' : World} (hb : Below w.heap.size w w') : w'.ownsRow base 23 2 v n xs := by
  obtain ⟨h0, h | ⟨g, cap, cur, h1, h2, h3, h4⟩⟩ := h
  · exact ⟨h0, Or.inl h⟩
  · exact ⟨h0, Or.inr ⟨g, cap, cur, h1, h2, by rw [hb.block g (lt_of_block h3)]; exact h3, h4⟩⟩
theorem own_mono {w : World} {base base' n : Nat} {v : Value} {xs : List Value} (h : w.ownsRow base 23 2 v n xs) (hb : base' ≤ base) : w.ownsRow base' 23 2 v n xs := by
  obtain ⟨h0, h | ⟨g, cap, cur, h1, h2, h3, h4⟩⟩ := h
  · exact ⟨h0, Or.inl h⟩
  · exact ⟨h0, Or.inr ⟨g, cap, cur, h1, Nat.le_trans hb h2, h3, h4⟩⟩
set_option maxRecDepth 100000 in
set_option maxHeartbeats 8000000 in
theorem rcells_any (a b : Int) (wd ht : Nat) (w : World) (a1 : 1 ≤ a) (b1 : 1 ≤ b) (c1 : a + wd ≤ 27) (d1 : b + ht ≤ 100) :
    Calls Tryd.prog 20 #[X a b (a + wd - 1) (b + ht - 1)] w fun e w' => (∃ v, e = .returned v ∧ w'.ownsRow w.heap.size 23 2 v (ht * wd) (boxL a b wd ht)) ∧ Below w.heap.size w w' := by
  have hS := XS.start w a b (a + wd - 1) (b + ht - 1)
  obtain ⟨i0, hi, hz0, hz1, hz2⟩ := info_split info23
  obtain ⟨⟨o0, o1, o2, o3⟩, p0, p1, p2, p3⟩ := cells_four hS.own
  obtain ⟨w0, hw0⟩ : ∃ w0, w0 = w.alloc (.cells #[.int .i64 a, .int .i64 b, .int .i64 (a + wd - 1), .int .i64 (b + ht - 1)] 43) := ⟨_, rfl⟩
  have hsz0 : w0.heap.size = w.heap.size + 1 := by rw [hw0]; simp
  have HS : Hid (XS w a b (a + wd - 1) (b + ht - 1) w0) := by unfold Hid; rw [hw0]; exact hS
  go_enter Tryd.func20, Tryd.ntmps20
  go_upto_region 2 with fail
  rw [← hw0] at hS o0 o1 o2 o3 p0 p1 p2 p3 ⊢
  clear hw0
  go_wp2_with fail
  go_loopw [3, 4] (fun vl vr wr => ∃ m : Nat, m ≤ ht ∧ vr = .int .i64 (b + m) ∧ wr.ownsRow (w.heap.size + 1) 23 2 vl (m * wd) (boxL a b wd m) ∧ Below (w.heap.size + 1) w0 wr) (fun _ vr _ => (b + ht - intOf vr).toNat)
  case atStart => exact ⟨0, Nat.zero_le _, by simp, by simpa [boxL] using World.ownsRow_nil _ _ _ _, Below.refl _ _⟩
  case round =>
    obtain ⟨m, hm, rfl, hown, hB⟩ := hrel
    have hS := HS.out
    have e0 := hB.cell (p := ⟨w.heap.size, 0, none⟩) (by simp)
    have e1 := hB.cell (p := ⟨w.heap.size, 1, none⟩) (by simp)
    have e2 := hB.cell (p := ⟨w.heap.size, 2, none⟩) (by simp)
    have e3 := hB.cell (p := ⟨w.heap.size, 3, none⟩) (by simp)
    rw [o0] at e0
    rw [o1] at e1
    rw [o2] at e2
    rw [o3] at e3
    have hbs := hB.size
    by_cases hlt : m < ht
    · have hdm : decide (b + (m : Int) ≤ b + (ht : Int) - 1) = true := by simp; omega
      go_wp2_with fail
      go_loopw [3, 5] (fun vl vc wq => ∃ k : Nat, k ≤ wd ∧ vc = .int .i64 (a + k) ∧ wq.ownsRow (w.heap.size + 1) 23 2 vl (m * wd + k) (boxL a b wd m ++ rowL (b + m) a k) ∧ Below (w.heap.size + 1) w0 wq) (fun _ vc _ => (a + wd - intOf vc).toNat)
      case atStart => exact ⟨0, Nat.zero_le _, by simp, by simpa [rowL] using hown, hB⟩
      case round =>
        clear hown hB e0 e1 e2 e3 hbs
        obtain ⟨k, hk, rfl, hown, hB⟩ := hrel
        have e0 := hB.cell (p := ⟨w.heap.size, 0, none⟩) (by simp)
        have e1 := hB.cell (p := ⟨w.heap.size, 1, none⟩) (by simp)
        have e2 := hB.cell (p := ⟨w.heap.size, 2, none⟩) (by simp)
        have e3 := hB.cell (p := ⟨w.heap.size, 3, none⟩) (by simp)
        rw [o0] at e0
        rw [o1] at e1
        rw [o2] at e2
        rw [o3] at e3
        have hbs := hB.size
        have hmw : m * wd + k ≤ 2600 := by
          have h1 : m * wd ≤ 99 * 26 := Nat.mul_le_mul (by omega) (by omega)
          omega
        by_cases hkl : k < wd
        · have hcap : (m * wd + k + 1) * 16 ≤ 140737488355328 := by omega
          go_wp2_with (first | (at_builtin; refine wpList_append_own _ rfl _ _ 48 rfl (w.heap.size + 1) 23 i0 (C 0 0) 2 16 Tryd.underlying48 hi hz0 hz1 hz2 rfl (by decide) _ _ _ rfl (hown.alloc _) ⟨wr.heap.size, 0, none⟩ 1 1 [.int .i64 (a + k), .int .i64 (b + m)] rfl rfl ?c1 ?c2 ?c3 ?c4 ?c5 ?_))
          case c1 =>
            intro j u hj
            match j, hj with
            | 0, hj => simp at hj; subst hj; simp [Addr.add]
            | 1, hj => simp at hj; subst hj; simp [Addr.add]
          case c2 =>
            intro u hu
            simp at hu
            rcases hu with rfl | rfl <;> rfl
          case c3 => unfold maxLen; omega
          case c4 => omega
          case c5 => simp; omega
          · intro v' w3 hown' hgrow _
            go_wp2_with fail
            have hb3 : Below (w.heap.size + 1) w0 w3 := (hB.alloc (by omega) _).grown hgrow (by simp; omega) (fun q hq => (hown.lt q hq).1)
            exact ⟨⟨k + 1, by omega, by congr 1; omega, hown', hb3⟩, by simp [intOf]; omega⟩
        · have hkw : k = wd := by omega
          subst hkw
          go_wp2_with fail
          exact ⟨⟨m + 1, by omega, by congr 1; omega, by rw [Nat.succ_mul]; exact hown, hB⟩, by simp [intOf]; omega⟩
    · have hmt : m = ht := by omega
      subst hmt
      go_wp2_with fail
      go_ret
      exact ⟨⟨_, rfl, own_mono hown (by omega)⟩, HS.out.below.trans (hB.mono (by omega))⟩
end Go.Proofs.YtmaiabkggpifgaaDoor.adr
