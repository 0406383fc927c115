/- The law ValueBack returns true for every value and every text, and touches nothing that was there. Conditions: the package variables hold what the program's text lays ('Env'); the value's number has 64 bits. -/
import Derived.Test.YtgoadofnfaidcaaDoorBackMath
import Derived.Test.YtgoadofnfaidcaaDoorOrderLaw
namespace Go.Proofs.YtgoadofnfaidcaaDoor
open Go.RowKit
/-- What stands while the law goes on: the value that came in, the package variables, what was there. -/
structure St (w0 : World) (b : Nat) (k n : Int) (s : ByteArray) (w : World) : Prop where
  v : Has w b k n s
  env : Env w
  below : Below w0.heap.size w0 w
theorem St.next {w0 : World} {b : Nat} {k n : Int} {s : ByteArray} {w w' : World} (h : St w0 b k n s w) (hb : Below w.heap.size w w') : St w0 b k n s w' :=
  ⟨h.v.below hb, h.env.next hb, bnext h.below hb h.below.size⟩
theorem St.alloc {w0 : World} {b : Nat} {k n : Int} {s : ByteArray} {w : World} (h : St w0 b k n s w) (o : Obj) : St w0 b k n s (w.alloc o) := h.next ((Below.refl _ _).alloc (Nat.le_refl _) _)
theorem St.drew {w0 : World} {b : Nat} {k n : Int} {s : ByteArray} {w : World} (h : St w0 b k n s w) : St w0 b k n s w.drew := ⟨h.v.drew, h.env.next ⟨rfl, rfl, rfl, Nat.le_refl _, fun _ _ => rfl⟩, h.below.drew⟩
theorem read_at (s : ByteArray) (k n : Int) (t : ByteArray) (h : rd s = (k, n, t)) (w : World) (hE : Env w) :
    Calls Tryd.prog 6 #[.string s] w fun e w' => e = .returned (V k n t) ∧ Below w.heap.size w w' := by
  have := read_any s w hE
  rw [h] at this
  exact this
set_option maxRecDepth 100000 in
set_option maxHeartbeats 4000000 in
theorem back_law (k n : Int) (s t : ByteArray) (w : World) (hE : Env w) (h0 : -9223372036854775808 ≤ n) (h1 : n ≤ 9223372036854775807) :
    Calls Tryd.prog 4 #[V k n s, .string t] w fun e w' => e = .returned (.bool true) ∧ Below w.heap.size w w' := by
  have hS : St w w.heap.size k n s (w.alloc (.cells #[.int .i64 k, .int .i64 n, .string s] 23)) := ⟨Has.new _ _ _ _ _, hE.alloc _, (Below.refl _ _).alloc (Nat.le_refl _) _⟩
  go_enter Tryd.func4, Tryd.ntmps4
  go_upto_region 1 with fail
  go_cut [5] (fun s5 wx => ∃ b5, s5 = ptr b5 ∧ Has wx b5 1 (-12) nul ∧ St w w.heap.size k n s wx)
  case first =>
    go_wp2_with fail
    refine (read_at _ 1 (-12) nul rd_fact _ hS.env).mono ?_
    rintro e w1 ⟨rfl, b1⟩
    go_wp2_with fail
    go_meet
    case rel => exact ⟨_, rfl, Has.new _ _ _ _ _, (hS.next b1).alloc _⟩
  case rest =>
  clear hS hE
  obtain ⟨b5, rfl, H5, hS⟩ := hcut
  obtain ⟨l5, c50, c51, c52⟩ := H5
  go_upto_region 2 with fail
  go_cut [15] (fun s15 wx => s15 = .bool false ∧ St w w.heap.size k n s wx)
  case first =>
    go_region_with (go_at_call 8; refine (rnum_any _ _).mono ?_; rintro e w1 ⟨rfl, b1⟩; obtain ⟨j0, j1, j2, j3⟩ := Has.below (w := wc.drew) ⟨l5, c50, c51, c52⟩ b1)
    all_goals
      go_wp2_with fail
      go_meet
      case rel => exact ⟨rfl, hS.drew.next b1⟩
  case rest =>
  clear hS l5 c50 c51 c52
  obtain ⟨rfl, hS⟩ := hcut
  go_upto_region 4 with fail
  go_cut [6] (fun s6 wx => s6 = ckv (isVal k n s) ∧ St w w.heap.size k n s wx)
  case first =>
    have ⟨lv, v0, v1, v2⟩ := hS.v
    go_wp2_with fail
    refine (check_any _ _ _ _).mono ?_
    rintro e w1 ⟨rfl, b1⟩
    go_wp2_with fail
    go_meet
    case rel => exact ⟨rfl, hS.next b1⟩
  case rest =>
  clear hS
  obtain ⟨rfl, hS⟩ := hcut
  go_upto_region 5 with fail
  go_cut [6, 24] (fun s6 s24 wx => s24 = .bool (isVal k n s && k != 2) ∧ wx = wc ∧ s6 = s6)
  case first =>
    have ⟨lv, v0, v1, v2⟩ := hS.v
    cases hv : isVal k n s
    · have ec : ckv false = .iface 42 (.int .i64 1) := rfl
      rw [ec]
      have HQ : Hid (isVal k n s = false) := hv
      clear hv
      go_wp2_with fail
      go_meet
      case rel => exact ⟨by rw [HQ.out]; rfl, rfl, trivial⟩
    · have ec : ckv true = .nilIface := rfl
      rw [ec]
      have HQ : Hid (isVal k n s = true) := hv
      clear hv
      go_wp2_with fail
      go_meet
      case rel => exact ⟨by rw [HQ.out, Bool.true_and], rfl, trivial⟩
  case rest =>
  obtain ⟨rfl, rfl, _⟩ := hcut
  go_upto_if 24 with fail
  go_cut [] (fun wx => St w w.heap.size k n s wx)
  case first =>
    cases hv : (isVal k n s && k != 2)
    · clear hv
      go_wp2_with fail
      go_meet
      case rel => exact hS
    · rw [Bool.and_eq_true, bne_iff_ne] at hv
      have hrd := rd_sh k n s hv.1 hv.2 h0 h1
      have HR : Hid (rd (sh k n s) = (k, n, s)) := hrd
      clear hv hrd
      have ⟨lv, v0, v1, v2⟩ := hS.v
      go_wp2_with fail
      refine (show_any k n s _ hS.env h0 h1).mono ?_
      rintro e w1 ⟨rfl, b1⟩
      have hS1 := hS.next b1
      go_wp2_with fail
      refine (read_at _ k n s HR.out _ hS1.env).mono ?_
      rintro e w2 ⟨rfl, b2⟩
      have hS2 := hS1.next b2
      have ⟨lv2, v02, v12, v22⟩ := hS2.v
      go_wp2_with fail
      go_meet
      case rel => exact hS2.alloc _
  case rest =>
  clear hS
  have hS := hcut
  clear hcut
  obtain ⟨hv, hbd, hsh⟩ := rd_all t
  have HRd : Hid (rd t = ((rd t).1, (rd t).2.1, (rd t).2.2)) := rfl
  generalize (rd t).1 = rk at *
  generalize (rd t).2.1 = rn at *
  generalize (rd t).2.2 = rs at *
  have HV : Hid (isVal rk rn rs = true) := hv
  have HS : Hid ((t.size : Int) ≤ 200 → sh rk rn rs = t) := hsh
  clear hv hsh
  go_upto_region 10 with fail
  go_cut [9] (fun s9 wx => ∃ b9, s9 = ptr b9 ∧ Has wx b9 rk rn rs ∧ St w w.heap.size k n s wx)
  case first =>
    go_wp2_with fail
    refine (read_at _ rk rn rs HRd.out _ hS.env).mono ?_
    rintro e w1 ⟨rfl, b1⟩
    go_wp2_with fail
    go_meet
    case rel => exact ⟨_, rfl, Has.new _ _ _ _ _, (hS.next b1).alloc _⟩
  case rest =>
  clear hS HRd
  obtain ⟨b9, rfl, H9, hS⟩ := hcut
  go_upto_region 11 with fail
  go_cut [10] (fun s10 wx => s10 = .nilIface ∧ Has wx b9 rk rn rs ∧ St w w.heap.size k n s wx)
  case first =>
    have ⟨l9, v0, v1, v2⟩ := H9
    go_wp2_with fail
    refine (check_yes _ _ _ _ HV.out).mono ?_
    rintro e w1 ⟨rfl, b1⟩
    go_wp2_with fail
    go_meet
    case rel => exact ⟨rfl, H9.below b1, hS.next b1⟩
  case rest =>
  clear hS H9
  obtain ⟨rfl, H9, hS⟩ := hcut
  go_upto_region 12 with fail
  go_cut [11] (fun s11 wx => s11 = .string (sh rk rn rs) ∧ St w w.heap.size k n s wx)
  case first =>
    have ⟨l9, v0, v1, v2⟩ := H9
    go_wp2_with fail
    refine (show_any _ _ _ _ hS.env hbd.1 hbd.2).mono ?_
    rintro e w1 ⟨rfl, b1⟩
    go_wp2_with fail
    go_meet
    case rel => exact ⟨rfl, hS.next b1⟩
  case rest =>
  clear hS H9 HV
  obtain ⟨rfl, hS⟩ := hcut
  by_cases hl : (200 : Int) < (t.size : Int)
  · clear HS
    go_wp2_with fail
    go_ret
    exact ⟨rfl, hS.below⟩
  · rw [HS.out (by omega)]
    clear HS
    go_wp2_with fail
    go_ret
    exact ⟨by simp, hS.below⟩
end Go.Proofs.YtgoadofnfaidcaaDoor
