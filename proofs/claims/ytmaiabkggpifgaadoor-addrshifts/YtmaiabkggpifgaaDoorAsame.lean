/- Two lists of cells that are the same. Conditions: as the theorem says. -/
import Derived.Test.YtmaiabkggpifgaaDoorApcells
import Derived.Deep.QuietTactic
import Derived.BigQuiet
namespace Go.Proofs.YtmaiabkggpifgaaDoor.adr
open Go.RowKit
theorem own_shape {w : World} {base n : Nat} {v : Value} {xs : List Value} (h : w.ownsRow base 23 2 v n xs) : ∃ A cap, v = .slice A n cap ∧ (0 < n → ∃ g, A = some ⟨g, 0, none⟩ ∧ ∀ j, j < n * 2 → w.cell? ⟨g, j, none⟩ = xs[j]?) := by
  obtain ⟨h0, ⟨rfl, rfl⟩ | ⟨g, cap, cur, rfl, h2⟩⟩ := id h
  · exact ⟨none, 0, rfl, fun q => absurd q (by omega)⟩
  · exact ⟨some ⟨g, 0, none⟩, cap, rfl, fun _ => ⟨g, rfl, fun j hj => h.cellAt j hj⟩⟩
set_option maxRecDepth 100000 in
set_option maxHeartbeats 4000000 in
theorem sameCells_any (v u : Value) (n B B' : Nat) (xs : List Value) (w : World) (h1 : w.ownsRow B 23 2 v n xs) (h2 : w.ownsRow B' 23 2 u n xs) (hn : n ≤ 2600) (hx : ∀ k, k < n → ∃ c r : Int, xs[k * 2]? = some (.int .i64 c) ∧ xs[k * 2 + 1]? = some (.int .i64 r)) :
    Calls Tryd.prog 22 #[v, u] w fun e w' => e = .returned (.bool true) ∧ Below w.heap.size w w' := by
  obtain ⟨A, cap, rfl, hA⟩ := own_shape h1
  obtain ⟨A', cap', rfl, hA'⟩ := own_shape h2
  clear h1 h2
  go_enter Tryd.func22, Tryd.ntmps22
  go_wp2_with fail
  go_loopw [5] (fun i wr => ∃ k q : Nat, k ≤ n ∧ i = .int .i64 k ∧ wr = w.drewN q) (fun i _ => n - (intOf i).toNat)
  case atStart => exact ⟨0, 0, Nat.zero_le _, rfl, rfl⟩
  case round =>
    obtain ⟨k, q, hk, rfl, rfl⟩ := hrel
    by_cases hlt : k < n
    · obtain ⟨g, rfl, hc⟩ := hA (by omega)
      obtain ⟨g', rfl, hc'⟩ := hA' (by omega)
      obtain ⟨c, r, x0, x1⟩ := hx k hlt
      have e0 := hc (k * 2) (by omega)
      have e1 := hc (k * 2 + 1) (by omega)
      have e2 := hc' (k * 2) (by omega)
      have e3 := hc' (k * 2 + 1) (by omega)
      rw [x0] at e0 e2
      rw [x1] at e1 e3
      have hlt' : (k : Int) < (n : Int) := by omega
      clear hA hA' hx hc hc' x0 x1
      go_wp2_with fail
      go_quiet (fail)
      go_wp2_with fail
      exact ⟨⟨k + 1, q + nq, by omega, rfl, rfl⟩, by simp [intOf]; omega⟩
    · have hkn : k = n := by omega
      subst hkn
      clear hA hA' hx
      go_wp2_with fail
      go_ret
      exact ⟨rfl, below_drewN (Below.refl _ _) q⟩
/-- A list of two numbers each. -/
def Pairs (xs : List Value) (n : Nat) : Prop := xs.length = n * 2 ∧ ∀ k, k < n → ∃ c r : Int, xs[k * 2]? = some (.int .i64 c) ∧ xs[k * 2 + 1]? = some (.int .i64 r)
theorem Pairs.append {xs ys : List Value} {n m : Nat} (h : Pairs xs n) (h2 : Pairs ys m) : Pairs (xs ++ ys) (n + m) := by
  refine ⟨by rw [List.length_append, h.1, h2.1]; omega, fun k hk => ?_⟩
  by_cases q : k < n
  · obtain ⟨c, r, a, b⟩ := h.2 k q
    refine ⟨c, r, ?_, ?_⟩
    · rw [List.getElem?_append_left (by rw [h.1]; omega)]; exact a
    · rw [List.getElem?_append_left (by rw [h.1]; omega)]; exact b
  · obtain ⟨c, r, a, b⟩ := h2.2 (k - n) (by omega)
    refine ⟨c, r, ?_, ?_⟩
    · rw [List.getElem?_append_right (by rw [h.1]; omega), h.1, show k * 2 - n * 2 = (k - n) * 2 from by omega]; exact a
    · rw [List.getElem?_append_right (by rw [h.1]; omega), h.1, show k * 2 + 1 - n * 2 = (k - n) * 2 + 1 from by omega]; exact b
theorem pairs_nil : Pairs [] 0 := ⟨rfl, fun k hk => absurd hk (by omega)⟩
theorem pairs_one (c r : Int) : Pairs [.int .i64 c, .int .i64 r] 1 := ⟨rfl, fun k hk => by
  obtain rfl : k = 0 := by omega
  exact ⟨c, r, rfl, rfl⟩⟩
theorem pairs_row (r c0 : Int) : ∀ k, Pairs (rowL r c0 k) k
  | 0 => pairs_nil
  | k + 1 => (pairs_row r c0 k).append (pairs_one _ _)
theorem pairs_box (c0 r0 : Int) (wd : Nat) : ∀ m, Pairs (boxL c0 r0 wd m) (m * wd)
  | 0 => by rw [Nat.zero_mul]; exact pairs_nil
  | m + 1 => by rw [Nat.succ_mul]; exact (pairs_box c0 r0 wd m).append (pairs_row _ _ _)
end Go.Proofs.YtmaiabkggpifgaaDoor.adr
