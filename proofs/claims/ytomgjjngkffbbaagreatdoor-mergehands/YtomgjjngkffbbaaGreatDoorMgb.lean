
/- The document's Text and Diff. Conditions: as each theorem says. -/
import Derived.Test.YtomgjjngkffbbaaGreatDoorFwa
import Derived.Test.YtomgjjngkffbbaaGreatDoorMga
import Derived.BigQuiet
import Derived.Laws.StructEq
namespace Go.Proofs.YtomgjjngkffbbaaGreatDoor.fw
open Go Go.RowKit Go.Sort
theorem eqInC (a b c d : Int) (m : Nat) (W : World) : (Op.equalIn (m + 2) 43 (.agg #[.int .i64 a, .int .i64 b]) (.agg #[.int .i64 c, .int .i64 d])).run Tryz.prog W = .ok (decide (a = c) && decide (b = d)) W := by
  have hS : Tryz.prog.underlying 43 = some (.struct (Tryz.prog.fieldsOf 43)) := by kernel_rfl
  have hp : Tryz.prog.stoodInHeld 43 = false := by kernel_rfl
  rw [run_equalIn_struct W (m + 1) 43 _ _ hS hp]
  simp only [Program.fieldsOf, Tryz.underlying43]
  by_cases h1 : a = c
  · by_cases h2 : b = d
    · subst h1 h2; simp [Op.eqFields, go_sem]
    · subst h1; simp [Op.eqFields, go_sem, h2]
  · simp [Op.eqFields, go_sem, h1]
theorem eqlC (a b c d : Int) (W : World) : (binOp BinOp.eql 43 (.agg #[.int .i64 a, .int .i64 b]) (.agg #[.int .i64 c, .int .i64 d])).run Tryz.prog W = .ok (.bool (decide (a = c) && decide (b = d))) W := by
  rw [run_eql_struct, show (10000 : Nat) = 9998 + 2 from rfl, eqInC]; rfl
/-- A list of cells with their texts that was handed in: what lies there, whatever comes. -/
def LV (w : World) (p : Option Addr) (xs : List ps.Fl) : Prop := ∀ wx, Bw w wx → ∀ (i : Nat) (x : ps.Fl), xs[i]? = some x → ∃ g o, p = some ⟨g, o, none⟩ ∧ g < wx.heap.size ∧ wx.cell? ⟨g, o + i * 3, none⟩ = some (.int .i64 x.c) ∧ wx.cell? ⟨g, o + i * 3 + 1, none⟩ = some (.int .i64 x.r) ∧ wx.cell? ⟨g, o + i * 3 + 2, none⟩ = some (.string x.s)
theorem LV.next {w wx : World} {p : Option Addr} {xs : List ps.Fl} (h : LV w p xs) (hb : Bw w wx) : LV wx p xs := fun _ h2 => h _ (hb.tr h2)
theorem dr_bw (w : World) (m : Nat) : Bw w (w.drewN m) := ⟨rfl, rfl, rfl, Nat.le_refl _, fun _ _ => rfl⟩
theorem cells2w {w : World} {b : Nat} {a0 a1 : Value} {t : TypeId} (h : w.heap[b]? = some (.cells #[a0, a1] t (0, 0))) : w.cell? ⟨b, 0, none⟩ = some a0 ∧ w.cell? ⟨b, 1, none⟩ = some a1 := by simp [World.cell?, h]
set_option maxRecDepth 1000000 in
set_option maxHeartbeats 4000000 in
theorem rtxt_any (p : Option Addr) (cp : Nat) (xs : List ps.Fl) (c r : Int) (w : World) (hx : LV w p xs) (hl : xs.length ≤ 3000) :
    Calls Tryz.prog 26 #[.slice p xs.length cp, .agg #[.int .i64 c, .int .i64 r]] w fun e w' => e = .returned (.string (ps.txt xs c r)) ∧ Bw w w' := by
  have HX : Hid (LV w p xs) := hx
  have HB0 : Hid (Bw w (w.alloc (.cells #[.int .i64 c, .int .i64 r] 43)) ∧ ∀ wx, Bw (w.alloc (.cells #[.int .i64 c, .int .i64 r] 43)) wx → wx.cell? ⟨w.heap.size, 0, none⟩ = some (.int .i64 c) ∧ wx.cell? ⟨w.heap.size, 1, none⟩ = some (.int .i64 r)) := by
    have hb : (w.alloc (.cells #[.int .i64 c, .int .i64 r] 43)).heap[w.heap.size]? = some (.cells #[.int .i64 c, .int .i64 r] 43) := heap_alloc_new w _
    exact ⟨Bw.al w _, fun wx h => cells2w ((h.block _ (Array.getElem?_eq_some_iff.1 hb).1).trans hb)⟩
  obtain ⟨n, hn⟩ : ∃ n, xs.length = n := ⟨_, rfl⟩
  have HN : Hid (xs.length = n) := hn
  rw [hn] at hl ⊢
  have hn9 : (n : Int) ≤ 3000 := by omega
  obtain ⟨R, hR⟩ : ∃ R, ps.txt xs c r = R := ⟨_, rfl⟩
  have HR : Hid (ps.txt xs c r = R) := hR
  rw [hR]
  clear hx hn hR
  go_enter Tryz.func26, Tryz.ntmps26
  go_wp2_with fail
  generalize w.alloc (.cells #[.int .i64 c, .int .i64 r] 43) = W0 at *
  go_loopw [5] (fun s5 wr => ∃ i : Nat, s5 = .int .i64 (i : Int) ∧ i ≤ n ∧ Hid (Bw W0 wr ∧ ps.txt (xs.drop i) c r = R)) (fun s5 _ => n - (intOf s5).toNat)
  case atStart => exact ⟨0, rfl, Nat.zero_le _, ⟨Below.refl _ _, by rw [List.drop_zero]; exact HR.out⟩⟩
  case round =>
    obtain ⟨i, rfl, hi, HI⟩ := hrel
    have hi0 : (0 : Int) ≤ (i : Int) := by omega
    by_cases hlt : i < n
    · have hlt' : (i : Int) < (n : Int) := by omega
      obtain ⟨x, hx⟩ : ∃ x, xs[i]? = some x := ⟨_, List.getElem?_eq_getElem (by rw [HN.out]; exact hlt)⟩
      have HXi : Hid (xs[i]? = some x) := hx
      have HD : Hid ((if ps.at' x c r = true then x.s else ps.txt (xs.drop (i + 1)) c r) = R) := by
        obtain ⟨h1, h2⟩ := List.getElem?_eq_some_iff.1 hx
        have := HI.out.2
        rw [List.drop_eq_getElem_cons h1, h2] at this
        exact this
      obtain ⟨g, o, rfl, -⟩ := HX.out _ (HB0.out.1.tr HI.out.1) i x hx
      have HC : Hid (∀ wx, Bw wr wx → (wx.cell? ⟨g, o + i * 3, none⟩ = some (.int .i64 x.c) ∧ wx.cell? ⟨g, o + i * 3 + 1, none⟩ = some (.int .i64 x.r) ∧ wx.cell? ⟨g, o + i * 3 + 2, none⟩ = some (.string x.s)) ∧ wx.cell? ⟨w.heap.size, 0, none⟩ = some (.int .i64 c) ∧ wx.cell? ⟨w.heap.size, 1, none⟩ = some (.int .i64 r)) := fun wx hb => by
        obtain ⟨g2, o2, e, -, h2⟩ := HX.out wx (HB0.out.1.tr (HI.out.1.tr hb)) i x HXi.out
        cases e
        exact ⟨h2, HB0.out.2 wx (HI.out.1.tr hb)⟩
      clear hx
      have z0 : ∀ j, (wr.drewN j).cell? ⟨g, o + i * 3, none⟩ = some (.int .i64 x.c) := fun j => (HC.out _ (dr_bw wr j)).1.1
      have z1 : ∀ j, (wr.drewN j).cell? ⟨g, o + i * 3 + 1, none⟩ = some (.int .i64 x.r) := fun j => (HC.out _ (dr_bw wr j)).1.2.1
      have z2 : ∀ j, (wr.drewN j).cell? ⟨g, o + i * 3 + 2, none⟩ = some (.string x.s) := fun j => (HC.out _ (dr_bw wr j)).1.2.2
      have y0 : ∀ j, (wr.drewN j).cell? ⟨w.heap.size, 0, none⟩ = some (.int .i64 c) := fun j => (HC.out _ (dr_bw wr j)).2.1
      have y1 : ∀ j, (wr.drewN j).cell? ⟨w.heap.size, 1, none⟩ = some (.int .i64 r) := fun j => (HC.out _ (dr_bw wr j)).2.2
      have e30 := fun W => eqlC x.c x.r c r W
      by_cases hat : ps.at' x c r = true
      · have hq : (decide (x.c = c) && decide (x.r = r)) = true := by
          have := ps.at_iff.1 hat
          simp [this.1, this.2]
        have HF : Hid (x.s = R) := by
          have := HD.out
          rw [if_pos hat] at this
          exact this
        rw [hq] at e30
        clear hat hq
        go_wp2_with fail
        go_quiet (fail)
        go_wp2_with fail
        exact bodyPost_ret (v := .string x.s) (by simp [results, Tryz.results26, go_sem]) rfl ⟨by rw [HF.out], HB0.out.1.tr (HI.out.1.tr (dr_bw _ _))⟩
      · have hq : (decide (x.c = c) && decide (x.r = r)) = false := by
          rw [ps.at_iff] at hat
          rcases Decidable.em (x.c = c) with h | h
          · rw [decide_eq_false fun h2 : x.r = r => hat ⟨h, h2⟩, Bool.and_false]
          · rw [decide_eq_false h, Bool.false_and]
        have HF : Hid (ps.txt (xs.drop (i + 1)) c r = R) := by
          have := HD.out
          rw [if_neg hat] at this
          exact this
        rw [hq] at e30
        clear hat hq
        go_wp2_with fail
        go_quiet (fail)
        go_wp2_with fail
        exact ⟨⟨i + 1, by simp, hlt, ⟨HI.out.1.tr (dr_bw _ _), HF.out⟩⟩, by simp [intOf]; omega⟩
    · have hlt' : ¬ (i : Int) < (n : Int) := by omega
      obtain rfl : i = n := by omega
      have HF : Hid (R = nul) := by
        have := HI.out.2
        rw [List.drop_of_length_le (by rw [HN.out]; exact Nat.le_refl _)] at this
        exact this.symm
      go_wp2_with fail
      exact bodyPost_ret (v := .string nul) (by simp [results, Tryz.results26, go_sem]) rfl ⟨by rw [HF.out], HB0.out.1.tr HI.out.1⟩
end Go.Proofs.YtomgjjngkffbbaaGreatDoor.fw
