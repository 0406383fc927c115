/- The law ValueOrder returns true for every three values, and touches nothing that was there. Conditions: none beyond what the row has. -/
import Derived.Test.YtgoadofnfaidcaaDoorOrd
namespace Go.Proofs.YtgoadofnfaidcaaDoor
open Go.RowKit
set_option maxRecDepth 100000 in
set_option maxHeartbeats 1000000 in
theorem two_less (k n n' : Int) (s s' : ByteArray) (w : World) (h4 : (k == 4) = false) (hv : isVal k n s = true) (hv' : isVal k n' s' = true) :
    Calls Tryd.prog 13 #[.int .i64 3, V k n s, V k n' s'] w fun e w' => e = .returned (V 3 (b2n (decide (cmpV k n s k n' s' < 0))) nul) ∧ Below w.heap.size w w' := by
  have HV : Hid (isVal k n s = true) := hv
  have HV' : Hid (isVal k n' s' = true) := hv'
  clear hv hv'
  go_enter Tryd.func13, Tryd.ntmps13
  go_wp2_with fail
  refine (hold_less k n n' s s' _ h4 HV.out HV'.out).mono ?_
  rintro e w1 ⟨rfl, hb⟩
  obtain ⟨hc, hf⟩ := bcell hb
  obtain ⟨z0, z1, z2⟩ : w.heap.size < w1.heap.size ∧ w.heap.size + 1 < w1.heap.size ∧ w.heap.size + 1 + 1 < w1.heap.size := by have := hb.size; simp at this; omega
  go_wp2_with fail
  exact bodyPost_ret (v := V 3 (b2n (decide (cmpV k n s k n' s' < 0))) nul) (by simp [results, Tryd.results13, go_sem, *]) rfl ⟨rfl, by (repeat (first | exact Below.refl _ _ | assumption | (refine Below.setCell ?_ (by first | omega | (simp <;> omega)) _) | (refine Below.alloc ?_ (by first | omega | (simp <;> omega)) _) | (refine Below.drew ?_) | (refine Below.trans ?_ (Below.mono (by assumption) (by first | omega | (simp <;> omega))))))⟩
set_option maxRecDepth 100000 in
set_option maxHeartbeats 1000000 in
theorem two_equal (k n n' : Int) (s s' : ByteArray) (w : World) (h4 : (k == 4) = false) (hv : isVal k n s = true) (hv' : isVal k n' s' = true) :
    Calls Tryd.prog 13 #[.int .i64 1, V k n s, V k n' s'] w fun e w' => e = .returned (V 3 (b2n (cmpV k n s k n' s' == 0)) nul) ∧ Below w.heap.size w w' := by
  have HV : Hid (isVal k n s = true) := hv
  have HV' : Hid (isVal k n' s' = true) := hv'
  clear hv hv'
  go_enter Tryd.func13, Tryd.ntmps13
  go_wp2_with fail
  refine (hold_equal k n n' s s' _ h4 HV.out HV'.out).mono ?_
  rintro e w1 ⟨rfl, hb⟩
  obtain ⟨hc, hf⟩ := bcell hb
  obtain ⟨z0, z1, z2⟩ : w.heap.size < w1.heap.size ∧ w.heap.size + 1 < w1.heap.size ∧ w.heap.size + 1 + 1 < w1.heap.size := by have := hb.size; simp at this; omega
  go_wp2_with fail
  exact bodyPost_ret (v := V 3 (b2n (cmpV k n s k n' s' == 0)) nul) (by simp [results, Tryd.results13, go_sem, *]) rfl ⟨rfl, by (repeat (first | exact Below.refl _ _ | assumption | (refine Below.setCell ?_ (by first | omega | (simp <;> omega)) _) | (refine Below.alloc ?_ (by first | omega | (simp <;> omega)) _) | (refine Below.drew ?_) | (refine Below.trans ?_ (Below.mono (by assumption) (by first | omega | (simp <;> omega))))))⟩
/-- The three values that came in, in blocks of their own. -/
structure T3 (w0 : World) (b3 b4 b5 : Nat) (k n : Int) (s : ByteArray) (k' n' : Int) (s' : ByteArray) (k2 n2 : Int) (s2 : ByteArray) (w : World) : Prop where
  a : Has w b3 k n s
  b : Has w b4 k' n' s'
  c : Has w b5 k2 n2 s2
  below : Below w0.heap.size w0 w
theorem T3.next {w0 : World} {b3 b4 b5 : Nat} {k n : Int} {s : ByteArray} {k' n' : Int} {s' : ByteArray} {k2 n2 : Int} {s2 : ByteArray} {w w' : World} (h : T3 w0 b3 b4 b5 k n s k' n' s' k2 n2 s2 w) (hb : Below w.heap.size w w') : T3 w0 b3 b4 b5 k n s k' n' s' k2 n2 s2 w' :=
  ⟨h.a.below hb, h.b.below hb, h.c.below hb, bnext h.below hb h.below.size⟩
theorem T3.alloc {w0 : World} {b3 b4 b5 : Nat} {k n : Int} {s : ByteArray} {k' n' : Int} {s' : ByteArray} {k2 n2 : Int} {s2 : ByteArray} {w : World} (h : T3 w0 b3 b4 b5 k n s k' n' s' k2 n2 s2 w) (o : Obj) : T3 w0 b3 b4 b5 k n s k' n' s' k2 n2 s2 (w.alloc o) := h.next ((Below.refl _ _).alloc (Nat.le_refl _) _)
theorem t3_start (w : World) (k n : Int) (s : ByteArray) (k' n' : Int) (s' : ByteArray) (k2 n2 : Int) (s2 : ByteArray) (t : TypeId) : T3 w w.heap.size (w.heap.size + 1) (w.heap.size + 1 + 1) k n s k' n' s' k2 n2 s2 (((w.alloc (.cells #[.int .i64 k, .int .i64 n, .string s] t)).alloc (.cells #[.int .i64 k', .int .i64 n', .string s'] t)).alloc (.cells #[.int .i64 k2, .int .i64 n2, .string s2] t)) := by
  have a := ((Has.new w k n s t).alloc (.cells #[.int .i64 k', .int .i64 n', .string s'] t)).alloc (.cells #[.int .i64 k2, .int .i64 n2, .string s2] t)
  have b := (Has.new (w.alloc (.cells #[.int .i64 k, .int .i64 n, .string s] t)) k' n' s' t).alloc (.cells #[.int .i64 k2, .int .i64 n2, .string s2] t)
  have c := Has.new ((w.alloc (.cells #[.int .i64 k, .int .i64 n, .string s] t)).alloc (.cells #[.int .i64 k', .int .i64 n', .string s'] t)) k2 n2 s2 t
  rw [World.size_alloc] at b
  rw [World.size_alloc, World.size_alloc] at c
  exact ⟨a, b, c, by (repeat (first | exact Below.refl _ _ | assumption | (refine Below.setCell ?_ (by first | omega | (simp <;> omega)) _) | (refine Below.alloc ?_ (by first | omega | (simp <;> omega)) _) | (refine Below.drew ?_) | (refine Below.trans ?_ (Below.mono (by assumption) (by first | omega | (simp <;> omega))))))⟩
theorem toList_inj {s t : ByteArray} (h : s.toList = t.toList) : s = t := by
  rw [ByteArray.toList_eq, ByteArray.toList_eq] at h
  obtain ⟨⟨l⟩⟩ := s
  obtain ⟨⟨m⟩⟩ := t
  simp at h
  rw [h]
/-- Two values that are asked for, opened. -/
abbrev Two2 (w0 : World) (b15 b16 : Nat) (x y : Int) (w : World) : Prop :=
  w.cell? ⟨b15, 0, none⟩ = some (.int .i64 3) ∧ w.cell? ⟨b15, 1, none⟩ = some (.int .i64 x) ∧ w.cell? ⟨b15, 2, none⟩ = some (.string nul) ∧ w.cell? ⟨b16, 0, none⟩ = some (.int .i64 3) ∧ w.cell? ⟨b16, 1, none⟩ = some (.int .i64 y) ∧ w.cell? ⟨b16, 2, none⟩ = some (.string nul) ∧ Has w b15 3 x nul ∧ Has w b16 3 y nul ∧ Below w0.heap.size w0 w
theorem two2_mk {w0 : World} {b15 b16 : Nat} {x y : Int} {w : World} (h : Has w b15 3 x nul) (g : Has w b16 3 y nul) (hb : Below w0.heap.size w0 w) : Two2 w0 b15 b16 x y w := ⟨h.c0, h.c1, h.c2, g.c0, g.c1, g.c2, h, g, hb⟩
theorem two2_below {w0 : World} {b15 b16 : Nat} {x y : Int} {w w' : World} (h : Two2 w0 b15 b16 x y w) (hb : Below w.heap.size w w') : Two2 w0 b15 b16 x y w' :=
  two2_mk (h.2.2.2.2.2.2.1.below hb) (h.2.2.2.2.2.2.2.1.below hb) (bnext h.2.2.2.2.2.2.2.2 hb h.2.2.2.2.2.2.2.2.size)
theorem two2_below0 {w0 : World} {b15 b16 : Nat} {x y : Int} {w : World} (h : Two2 w0 b15 b16 x y w) : Below w0.heap.size w0 w := h.2.2.2.2.2.2.2.2
theorem fact_cmp : cmpV 1 1 nul 2 0 nul = -1 := by decide
set_option maxRecDepth 100000 in
set_option maxHeartbeats 4000000 in
theorem law_vals (k n : Int) (s : ByteArray) (k' n' : Int) (s' : ByteArray) (k2 n2 : Int) (s2 : ByteArray) (w : World) (hv : isVal k n s = true) (hv' : isVal k' n' s' = true) (hv2 : isVal k2 n2 s2 = true) :
    Calls Tryd.prog 5 #[V k n s, V k' n' s', V k2 n2 s2] w fun e w' => e = .returned (.bool true) ∧ Below w.heap.size w w' := by
  have HV : Hid (isVal k n s = true) := hv
  have HV' : Hid (isVal k' n' s' = true) := hv'
  have HV2 : Hid (isVal k2 n2 s2 = true) := hv2
  clear hv hv' hv2
  have h0 := t3_start w k n s k' n' s' k2 n2 s2 23
  go_enter Tryd.func5, Tryd.ntmps5
  go_upto_region 1 with fail
  go_cut [7] (fun s7 wx => s7 = .int .i64 (-1) ∧ T3 w w.heap.size (w.heap.size + 1) (w.heap.size + 1 + 1) k n s k' n' s' k2 n2 s2 wx)
  case first =>
    go_wp2_with fail
    refine (rnum_any _ _).mono ?_
    rintro e w1 ⟨rfl, h1⟩
    go_wp2_with fail
    refine (rtxt_any _ _).mono ?_
    rintro e w2 ⟨rfl, h2⟩
    go_wp2_with fail
    refine (compare_any _ _ _ _ _ _ _).mono ?_
    rintro e w3 ⟨rfl, h3⟩
    rw [fact_cmp]
    go_wp2_with fail
    go_meet
    case rel => exact ⟨rfl, ((h0.next h1).next h2).next h3⟩
  case rest =>
  clear h0
  obtain ⟨rfl, hT⟩ := hcut
  have ⟨⟨la, a0, a1, a2⟩, ⟨lb, x0, x1, x2⟩, ⟨lc, y0, y1, y2⟩, hB⟩ := hT
  go_upto_region 4 with fail
  go_cut [8] (fun s8 wx => s8 = .nilIface ∧ T3 w w.heap.size (w.heap.size + 1) (w.heap.size + 1 + 1) k n s k' n' s' k2 n2 s2 wx)
  case first =>
    go_wp2_with fail
    refine (check_yes _ _ _ _ HV.out).mono ?_
    rintro e w1 ⟨rfl, h1⟩
    go_wp2_with fail
    go_meet
    case rel => exact ⟨rfl, hT.next h1⟩
  case rest =>
  clear hT la a0 a1 a2 lb x0 x1 x2 lc y0 y1 y2 hB
  obtain ⟨rfl, hT⟩ := hcut
  have ⟨⟨la, a0, a1, a2⟩, ⟨lb, x0, x1, x2⟩, ⟨lc, y0, y1, y2⟩, hB⟩ := hT
  go_upto_region 5 with fail
  go_cut [9] (fun s9 wx => s9 = .nilIface ∧ T3 w w.heap.size (w.heap.size + 1) (w.heap.size + 1 + 1) k n s k' n' s' k2 n2 s2 wx)
  case first =>
    go_wp2_with fail
    refine (check_yes _ _ _ _ HV'.out).mono ?_
    rintro e w1 ⟨rfl, h1⟩
    go_wp2_with fail
    go_meet
    case rel => exact ⟨rfl, hT.next h1⟩
  case rest =>
  clear hT la a0 a1 a2 lb x0 x1 x2 lc y0 y1 y2 hB
  obtain ⟨rfl, hT⟩ := hcut
  have ⟨⟨la, a0, a1, a2⟩, ⟨lb, x0, x1, x2⟩, ⟨lc, y0, y1, y2⟩, hB⟩ := hT
  go_upto_region 6 with fail
  go_cut [10] (fun s10 wx => s10 = .nilIface ∧ T3 w w.heap.size (w.heap.size + 1) (w.heap.size + 1 + 1) k n s k' n' s' k2 n2 s2 wx)
  case first =>
    go_wp2_with fail
    refine (check_yes _ _ _ _ HV2.out).mono ?_
    rintro e w1 ⟨rfl, h1⟩
    go_wp2_with fail
    go_meet
    case rel => exact ⟨rfl, hT.next h1⟩
  case rest =>
  clear hT la a0 a1 a2 lb x0 x1 x2 lc y0 y1 y2 hB
  obtain ⟨rfl, hT⟩ := hcut
  have ⟨⟨la, a0, a1, a2⟩, ⟨lb, x0, x1, x2⟩, ⟨lc, y0, y1, y2⟩, hB⟩ := hT
  go_upto_region 9 with fail
  go_cut [11] (fun s11 wx => s11 = .int .i64 (cmpV k n s k' n' s') ∧ T3 w w.heap.size (w.heap.size + 1) (w.heap.size + 1 + 1) k n s k' n' s' k2 n2 s2 wx)
  case first =>
    go_wp2_with fail
    refine (compare_any _ _ _ _ _ _ _).mono ?_
    rintro e w1 ⟨rfl, h1⟩
    go_wp2_with fail
    go_meet
    case rel => exact ⟨rfl, hT.next h1⟩
  case rest =>
  clear hT la a0 a1 a2 lb x0 x1 x2 lc y0 y1 y2 hB
  obtain ⟨rfl, hT⟩ := hcut
  have ⟨⟨la, a0, a1, a2⟩, ⟨lb, x0, x1, x2⟩, ⟨lc, y0, y1, y2⟩, hB⟩ := hT
  go_upto_region 10 with fail
  go_cut [12] (fun s12 wx => s12 = .int .i64 (-(cmpV k n s k' n' s')) ∧ T3 w w.heap.size (w.heap.size + 1) (w.heap.size + 1 + 1) k n s k' n' s' k2 n2 s2 wx)
  case first =>
    go_wp2_with fail
    refine (compare_any _ _ _ _ _ _ _).mono ?_
    rintro e w1 ⟨rfl, h1⟩
    go_wp2_with fail
    go_meet
    case rel => exact ⟨by rw [cmpV_neg], hT.next h1⟩
  case rest =>
  clear hT la a0 a1 a2 lb x0 x1 x2 lc y0 y1 y2 hB
  obtain ⟨rfl, hT⟩ := hcut
  have ⟨⟨la, a0, a1, a2⟩, ⟨lb, x0, x1, x2⟩, ⟨lc, y0, y1, y2⟩, hB⟩ := hT
  go_upto_region 11 with fail
  go_cut [13] (fun s13 wx => s13 = .int .i64 (cmpV k' n' s' k2 n2 s2) ∧ T3 w w.heap.size (w.heap.size + 1) (w.heap.size + 1 + 1) k n s k' n' s' k2 n2 s2 wx)
  case first =>
    go_wp2_with fail
    refine (compare_any _ _ _ _ _ _ _).mono ?_
    rintro e w1 ⟨rfl, h1⟩
    go_wp2_with fail
    go_meet
    case rel => exact ⟨rfl, hT.next h1⟩
  case rest =>
  clear hT la a0 a1 a2 lb x0 x1 x2 lc y0 y1 y2 hB
  obtain ⟨rfl, hT⟩ := hcut
  have ⟨⟨la, a0, a1, a2⟩, ⟨lb, x0, x1, x2⟩, ⟨lc, y0, y1, y2⟩, hB⟩ := hT
  go_upto_region 12 with fail
  go_cut [14] (fun s14 wx => s14 = .int .i64 (cmpV k n s k2 n2 s2) ∧ T3 w w.heap.size (w.heap.size + 1) (w.heap.size + 1 + 1) k n s k' n' s' k2 n2 s2 wx)
  case first =>
    go_wp2_with fail
    refine (compare_any _ _ _ _ _ _ _).mono ?_
    rintro e w1 ⟨rfl, h1⟩
    go_wp2_with fail
    go_meet
    case rel => exact ⟨rfl, hT.next h1⟩
  case rest =>
  clear hT la a0 a1 a2 lb x0 x1 x2 lc y0 y1 y2 hB
  obtain ⟨rfl, hT⟩ := hcut
  have ⟨⟨la, a0, a1, a2⟩, ⟨lb, x0, x1, x2⟩, ⟨lc, y0, y1, y2⟩, hB⟩ := hT
  have d1 := cmpV_bd k n s k' n' s'
  have hz := cmpV_zero HV.out HV'.out
  have ht : (cmpV k n s k' n' s') ≤ 0 → (cmpV k' n' s' k2 n2 s2) ≤ 0 → (cmpV k n s k2 n2 s2) ≤ 0 := cmpV_trans
  generalize hab : (cmpV k n s k' n' s') = ab at *
  have HAB : Hid ((cmpV k n s k' n' s') = ab) := hab
  clear hab
  generalize (cmpV k' n' s' k2 n2 s2) = bc at *
  generalize (cmpV k n s k2 n2 s2) = ac at *
  clear HV2
  have HZ : Hid (ab = 0 ↔ k = k' ∧ n = n' ∧ s = s') := hz
  have HT : Hid (ab ≤ 0 → bc ≤ 0 → ac ≤ 0) := ht
  clear hz ht
  go_upto_region 13 with fail
  go_cut [73] (fun s73 wx => s73 = .bool false ∧ T3 w w.heap.size (w.heap.size + 1) (w.heap.size + 1 + 1) k n s k' n' s' k2 n2 s2 wx)
  case first =>
    obtain ⟨d2, d3⟩ := d1
    by_cases ek : k = k'
    · subst ek
      by_cases en : n = n'
      · subst en
        by_cases es : s = s'
        · subst es
          have z := HZ.out.2 ⟨rfl, rfl, rfl⟩
          subst z
          clear d2 d3
          by_cases q : bc ≤ 0
          · have r : ac ≤ 0 := HT.out (Int.le_refl _) q
            clear HT HZ HV HV'
            go_wp2_with fail
            go_meet
            case rel => exact ⟨by first | (simp; done) | (simp; omega), hT⟩
          · clear HT HZ HV HV'
            go_wp2_with fail
            go_meet
            case rel => exact ⟨by first | (simp; done) | (simp; omega), hT⟩
        · have z : (ab == 0) = false := beq_eq_false_iff_ne.2 fun e => es (HZ.out.1 e).2.2
          have es1 : ¬ s.toList = s'.toList := fun e => es (toList_inj e)
          have es2 : (s.toList == s'.toList) = false := beq_eq_false_iff_ne.2 es1
          by_cases p : ab ≤ 0
          · by_cases q : bc ≤ 0
            · have r : ac ≤ 0 := HT.out p q
              clear HT HZ HV HV'
              go_wp2_with fail
              go_meet
              case rel => exact ⟨by first | (simp; done) | (simp; omega), hT⟩
            · clear HT HZ HV HV'
              go_wp2_with fail
              go_meet
              case rel => exact ⟨by first | (simp; done) | (simp; omega), hT⟩
          · clear HT HZ HV HV'
            go_wp2_with fail
            go_meet
            case rel => exact ⟨by first | (simp; done) | (simp; omega), hT⟩
      · have z : (ab == 0) = false := beq_eq_false_iff_ne.2 fun e => en (HZ.out.1 e).2.1
        by_cases p : ab ≤ 0
        · by_cases q : bc ≤ 0
          · have r : ac ≤ 0 := HT.out p q
            clear HT HZ HV HV'
            go_wp2_with fail
            go_meet
            case rel => exact ⟨by first | (simp; done) | (simp; omega), hT⟩
          · clear HT HZ HV HV'
            go_wp2_with fail
            go_meet
            case rel => exact ⟨by first | (simp; done) | (simp; omega), hT⟩
        · clear HT HZ HV HV'
          go_wp2_with fail
          go_meet
          case rel => exact ⟨by first | (simp; done) | (simp; omega), hT⟩
    · have z : (ab == 0) = false := beq_eq_false_iff_ne.2 fun e => ek (HZ.out.1 e).1
      by_cases p : ab ≤ 0
      · by_cases q : bc ≤ 0
        · have r : ac ≤ 0 := HT.out p q
          clear HT HZ HV HV'
          go_wp2_with fail
          go_meet
          case rel => exact ⟨by first | (simp; done) | (simp; omega), hT⟩
        · clear HT HZ HV HV'
          go_wp2_with fail
          go_meet
          case rel => exact ⟨by first | (simp; done) | (simp; omega), hT⟩
      · clear HT HZ HV HV'
        go_wp2_with fail
        go_meet
        case rel => exact ⟨by first | (simp; done) | (simp; omega), hT⟩
  case rest =>
  clear hT la a0 a1 a2 lb x0 x1 x2 lc y0 y1 y2 hB HT HZ
  obtain ⟨rfl, hT⟩ := hcut
  have ⟨⟨la, a0, a1, a2⟩, ⟨lb, x0, x1, x2⟩, ⟨lc, y0, y1, y2⟩, hB⟩ := hT
  by_cases ek : k = k'
  case neg =>
    have e1 : (k != k') = true := bne_iff_ne.2 ek
    clear ek HAB HV HV' d1
    go_wp2_with fail
    go_ret
    exact ⟨rfl, hB⟩
  subst ek
  by_cases e4 : k = 4
  case pos =>
    have e1 : (k == 4) = true := beq_iff_eq.2 e4
    clear e4 HAB HV HV' d1
    go_wp2_with fail
    go_ret
    exact ⟨rfl, hB⟩
  have e1 : (k == 4) = false := beq_eq_false_iff_ne.2 e4
  have t1 := fun w => two_less k n n' s s' w e1 HV.out HV'.out
  have t2 := fun w => two_equal k n n' s s' w e1 HV.out HV'.out
  simp only [HAB.out] at t1 t2
  have H1 : Hid (∀ w, Calls Tryd.prog 13 #[.int .i64 3, V k n s, V k n' s'] w fun e w' => e = .returned (V 3 (b2n (decide (ab < 0))) nul) ∧ Below w.heap.size w w') := t1
  have H2 : Hid (∀ w, Calls Tryd.prog 13 #[.int .i64 1, V k n s, V k n' s'] w fun e w' => e = .returned (V 3 (b2n (ab == 0)) nul) ∧ Below w.heap.size w w') := t2
  clear t1 t2 e4 HAB HV HV' d1
  go_upto_region 17 with fail
  go_cut [15] (fun s15 wx => ∃ b15, s15 = ptr b15 ∧ Has wx b15 3 (b2n (decide (ab < 0))) nul ∧ T3 w w.heap.size (w.heap.size + 1) (w.heap.size + 1 + 1) k n s k n' s' k2 n2 s2 wx)
  case first =>
    go_wp2_with fail
    refine (H1.out _).mono ?_
    rintro e w1 ⟨rfl, h1⟩
    go_wp2_with fail
    go_meet
    case rel => exact ⟨_, rfl, Has.new _ _ _ _ _, (hT.next h1).alloc _⟩
  case rest =>
  clear hT la a0 a1 a2 lb x0 x1 x2 lc y0 y1 y2 hB H1
  obtain ⟨b15, rfl, H15, hT⟩ := hcut
  have ⟨⟨la, a0, a1, a2⟩, ⟨lb, x0, x1, x2⟩, ⟨lc, y0, y1, y2⟩, hB⟩ := hT
  go_upto_region 18 with fail
  go_cut [16] (fun s16 wx => ∃ b16, s16 = ptr b16 ∧ Has wx b16 3 (b2n (ab == 0)) nul ∧ Has wx b15 3 (b2n (decide (ab < 0))) nul ∧ Below w.heap.size w wx)
  case first =>
    go_wp2_with fail
    refine (H2.out _).mono ?_
    rintro e w1 ⟨rfl, h1⟩
    go_wp2_with fail
    go_meet
    case rel => exact ⟨_, rfl, Has.new _ _ _ _ _, (H15.below h1).alloc _, bnew hB h1 hB.size _⟩
  case rest =>
  clear hT la a0 a1 a2 lb x0 x1 x2 lc y0 y1 y2 hB H2 H15
  obtain ⟨b16, rfl, H16, H15, hB⟩ := hcut
  have hd : Two2 w b15 b16 (b2n (decide (ab < 0))) (b2n (ab == 0)) wc.drew := two2_mk H15.drew H16.drew hB.drew
  go_upto_region 19 with fail
  go_cut [6] (fun s6 wx => s6 = .bool true ∧ Below w.heap.size w wx)
  case first =>
    go_region_held3 (fun wx => Two2 w b15 b16 (b2n (decide (ab < 0))) (b2n (ab == 0)) wx) (first | exact hd | exact two2_below (by assumption) (by assumption)) (first | (go_at_call 14; refine (rtru_any _ _).mono ?_; rintro e wa ⟨rfl, ha⟩))
    all_goals
      go_wp2_with fail
      go_meet
      case rel => exact ⟨rfl, two2_below0 (by assumption)⟩
  case rest =>
  clear hB
  obtain ⟨rfl, hB⟩ := hcut
  go_wp2_with fail
  go_ret
  exact ⟨rfl, hB⟩
/-- What Check says. -/
def ckv (b : Bool) : Value := if b = true then .nilIface else .iface 42 (.int .i64 1)
theorem check_any (k n : Int) (s : ByteArray) (w : World) :
    Calls Tryd.prog 9 #[V k n s] w fun e w' => e = .returned (ckv (isVal k n s)) ∧ Below w.heap.size w w' := by
  cases h : isVal k n s
  · exact check_no k n s w h
  · exact check_yes k n s w h
set_option maxRecDepth 100000 in
set_option maxHeartbeats 4000000 in
theorem law_no_a (k n : Int) (s : ByteArray) (k' n' : Int) (s' : ByteArray) (k2 n2 : Int) (s2 : ByteArray) (w : World) (hv : isVal k n s = false) :
    Calls Tryd.prog 5 #[V k n s, V k' n' s', V k2 n2 s2] w fun e w' => e = .returned (.bool true) ∧ Below w.heap.size w w' := by
  have HV : Hid (isVal k n s = false) := hv
  clear hv
  have h0 := t3_start w k n s k' n' s' k2 n2 s2 23
  go_enter Tryd.func5, Tryd.ntmps5
  go_upto_region 1 with fail
  go_cut [7] (fun s7 wx => s7 = .int .i64 (-1) ∧ T3 w w.heap.size (w.heap.size + 1) (w.heap.size + 1 + 1) k n s k' n' s' k2 n2 s2 wx)
  case first =>
    go_wp2_with fail
    refine (rnum_any _ _).mono ?_
    rintro e w1 ⟨rfl, h1⟩
    go_wp2_with fail
    refine (rtxt_any _ _).mono ?_
    rintro e w2 ⟨rfl, h2⟩
    go_wp2_with fail
    refine (compare_any _ _ _ _ _ _ _).mono ?_
    rintro e w3 ⟨rfl, h3⟩
    rw [fact_cmp]
    go_wp2_with fail
    go_meet
    case rel => exact ⟨rfl, ((h0.next h1).next h2).next h3⟩
  case rest =>
  clear h0
  obtain ⟨rfl, hT⟩ := hcut
  have ⟨⟨la, a0, a1, a2⟩, ⟨lb, x0, x1, x2⟩, ⟨lc, y0, y1, y2⟩, hB⟩ := hT
  go_upto_region 4 with fail
  go_cut [8] (fun s8 wx => s8 = .iface 42 (.int .i64 1) ∧ T3 w w.heap.size (w.heap.size + 1) (w.heap.size + 1 + 1) k n s k' n' s' k2 n2 s2 wx)
  case first =>
    go_wp2_with fail
    refine (check_no _ _ _ _ HV.out).mono ?_
    rintro e w1 ⟨rfl, h1⟩
    go_wp2_with fail
    go_meet
    case rel => exact ⟨rfl, hT.next h1⟩
  case rest =>
  clear hT la a0 a1 a2 lb x0 x1 x2 lc y0 y1 y2 hB
  obtain ⟨rfl, hT⟩ := hcut
  have ⟨⟨la, a0, a1, a2⟩, ⟨lb, x0, x1, x2⟩, ⟨lc, y0, y1, y2⟩, hB⟩ := hT
  go_upto_region 5 with fail
  go_cut [9] (fun s9 wx => s9 = ckv (isVal k' n' s') ∧ T3 w w.heap.size (w.heap.size + 1) (w.heap.size + 1 + 1) k n s k' n' s' k2 n2 s2 wx)
  case first =>
    go_wp2_with fail
    refine (check_any _ _ _ _).mono ?_
    rintro e w1 ⟨rfl, h1⟩
    go_wp2_with fail
    go_meet
    case rel => exact ⟨rfl, hT.next h1⟩
  case rest =>
  clear hT la a0 a1 a2 lb x0 x1 x2 lc y0 y1 y2 hB
  obtain ⟨rfl, hT⟩ := hcut
  have ⟨⟨la, a0, a1, a2⟩, ⟨lb, x0, x1, x2⟩, ⟨lc, y0, y1, y2⟩, hB⟩ := hT
  go_upto_region 6 with fail
  go_cut [10] (fun s10 wx => s10 = ckv (isVal k2 n2 s2) ∧ T3 w w.heap.size (w.heap.size + 1) (w.heap.size + 1 + 1) k n s k' n' s' k2 n2 s2 wx)
  case first =>
    go_wp2_with fail
    refine (check_any _ _ _ _).mono ?_
    rintro e w1 ⟨rfl, h1⟩
    go_wp2_with fail
    go_meet
    case rel => exact ⟨rfl, hT.next h1⟩
  case rest =>
  clear hT la a0 a1 a2 lb x0 x1 x2 lc y0 y1 y2 hB
  obtain ⟨rfl, hT⟩ := hcut
  have ⟨⟨la, a0, a1, a2⟩, ⟨lb, x0, x1, x2⟩, ⟨lc, y0, y1, y2⟩, hB⟩ := hT
  go_wp2_with fail
  go_ret
  exact ⟨rfl, hB⟩
set_option maxRecDepth 100000 in
set_option maxHeartbeats 4000000 in
theorem law_no_b (k n : Int) (s : ByteArray) (k' n' : Int) (s' : ByteArray) (k2 n2 : Int) (s2 : ByteArray) (w : World) (hv : isVal k n s = true) (hv' : isVal k' n' s' = false) :
    Calls Tryd.prog 5 #[V k n s, V k' n' s', V k2 n2 s2] w fun e w' => e = .returned (.bool true) ∧ Below w.heap.size w w' := by
  have HV : Hid (isVal k n s = true) := hv
  clear hv
  have HV' : Hid (isVal k' n' s' = false) := hv'
  clear hv'
  have h0 := t3_start w k n s k' n' s' k2 n2 s2 23
  go_enter Tryd.func5, Tryd.ntmps5
  go_upto_region 1 with fail
  go_cut [7] (fun s7 wx => s7 = .int .i64 (-1) ∧ T3 w w.heap.size (w.heap.size + 1) (w.heap.size + 1 + 1) k n s k' n' s' k2 n2 s2 wx)
  case first =>
    go_wp2_with fail
    refine (rnum_any _ _).mono ?_
    rintro e w1 ⟨rfl, h1⟩
    go_wp2_with fail
    refine (rtxt_any _ _).mono ?_
    rintro e w2 ⟨rfl, h2⟩
    go_wp2_with fail
    refine (compare_any _ _ _ _ _ _ _).mono ?_
    rintro e w3 ⟨rfl, h3⟩
    rw [fact_cmp]
    go_wp2_with fail
    go_meet
    case rel => exact ⟨rfl, ((h0.next h1).next h2).next h3⟩
  case rest =>
  clear h0
  obtain ⟨rfl, hT⟩ := hcut
  have ⟨⟨la, a0, a1, a2⟩, ⟨lb, x0, x1, x2⟩, ⟨lc, y0, y1, y2⟩, hB⟩ := hT
  go_upto_region 4 with fail
  go_cut [8] (fun s8 wx => s8 = .nilIface ∧ T3 w w.heap.size (w.heap.size + 1) (w.heap.size + 1 + 1) k n s k' n' s' k2 n2 s2 wx)
  case first =>
    go_wp2_with fail
    refine (check_yes _ _ _ _ HV.out).mono ?_
    rintro e w1 ⟨rfl, h1⟩
    go_wp2_with fail
    go_meet
    case rel => exact ⟨rfl, hT.next h1⟩
  case rest =>
  clear hT la a0 a1 a2 lb x0 x1 x2 lc y0 y1 y2 hB
  obtain ⟨rfl, hT⟩ := hcut
  have ⟨⟨la, a0, a1, a2⟩, ⟨lb, x0, x1, x2⟩, ⟨lc, y0, y1, y2⟩, hB⟩ := hT
  go_upto_region 5 with fail
  go_cut [9] (fun s9 wx => s9 = .iface 42 (.int .i64 1) ∧ T3 w w.heap.size (w.heap.size + 1) (w.heap.size + 1 + 1) k n s k' n' s' k2 n2 s2 wx)
  case first =>
    go_wp2_with fail
    refine (check_no _ _ _ _ HV'.out).mono ?_
    rintro e w1 ⟨rfl, h1⟩
    go_wp2_with fail
    go_meet
    case rel => exact ⟨rfl, hT.next h1⟩
  case rest =>
  clear hT la a0 a1 a2 lb x0 x1 x2 lc y0 y1 y2 hB
  obtain ⟨rfl, hT⟩ := hcut
  have ⟨⟨la, a0, a1, a2⟩, ⟨lb, x0, x1, x2⟩, ⟨lc, y0, y1, y2⟩, hB⟩ := hT
  go_upto_region 6 with fail
  go_cut [10] (fun s10 wx => s10 = ckv (isVal k2 n2 s2) ∧ T3 w w.heap.size (w.heap.size + 1) (w.heap.size + 1 + 1) k n s k' n' s' k2 n2 s2 wx)
  case first =>
    go_wp2_with fail
    refine (check_any _ _ _ _).mono ?_
    rintro e w1 ⟨rfl, h1⟩
    go_wp2_with fail
    go_meet
    case rel => exact ⟨rfl, hT.next h1⟩
  case rest =>
  clear hT la a0 a1 a2 lb x0 x1 x2 lc y0 y1 y2 hB
  obtain ⟨rfl, hT⟩ := hcut
  have ⟨⟨la, a0, a1, a2⟩, ⟨lb, x0, x1, x2⟩, ⟨lc, y0, y1, y2⟩, hB⟩ := hT
  go_wp2_with fail
  go_ret
  exact ⟨rfl, hB⟩
set_option maxRecDepth 100000 in
set_option maxHeartbeats 4000000 in
theorem law_no_c (k n : Int) (s : ByteArray) (k' n' : Int) (s' : ByteArray) (k2 n2 : Int) (s2 : ByteArray) (w : World) (hv : isVal k n s = true) (hv' : isVal k' n' s' = true) (hv2 : isVal k2 n2 s2 = false) :
    Calls Tryd.prog 5 #[V k n s, V k' n' s', V k2 n2 s2] w fun e w' => e = .returned (.bool true) ∧ Below w.heap.size w w' := by
  have HV : Hid (isVal k n s = true) := hv
  clear hv
  have HV' : Hid (isVal k' n' s' = true) := hv'
  clear hv'
  have HV2 : Hid (isVal k2 n2 s2 = false) := hv2
  clear hv2
  have h0 := t3_start w k n s k' n' s' k2 n2 s2 23
  go_enter Tryd.func5, Tryd.ntmps5
  go_upto_region 1 with fail
  go_cut [7] (fun s7 wx => s7 = .int .i64 (-1) ∧ T3 w w.heap.size (w.heap.size + 1) (w.heap.size + 1 + 1) k n s k' n' s' k2 n2 s2 wx)
  case first =>
    go_wp2_with fail
    refine (rnum_any _ _).mono ?_
    rintro e w1 ⟨rfl, h1⟩
    go_wp2_with fail
    refine (rtxt_any _ _).mono ?_
    rintro e w2 ⟨rfl, h2⟩
    go_wp2_with fail
    refine (compare_any _ _ _ _ _ _ _).mono ?_
    rintro e w3 ⟨rfl, h3⟩
    rw [fact_cmp]
    go_wp2_with fail
    go_meet
    case rel => exact ⟨rfl, ((h0.next h1).next h2).next h3⟩
  case rest =>
  clear h0
  obtain ⟨rfl, hT⟩ := hcut
  have ⟨⟨la, a0, a1, a2⟩, ⟨lb, x0, x1, x2⟩, ⟨lc, y0, y1, y2⟩, hB⟩ := hT
  go_upto_region 4 with fail
  go_cut [8] (fun s8 wx => s8 = .nilIface ∧ T3 w w.heap.size (w.heap.size + 1) (w.heap.size + 1 + 1) k n s k' n' s' k2 n2 s2 wx)
  case first =>
    go_wp2_with fail
    refine (check_yes _ _ _ _ HV.out).mono ?_
    rintro e w1 ⟨rfl, h1⟩
    go_wp2_with fail
    go_meet
    case rel => exact ⟨rfl, hT.next h1⟩
  case rest =>
  clear hT la a0 a1 a2 lb x0 x1 x2 lc y0 y1 y2 hB
  obtain ⟨rfl, hT⟩ := hcut
  have ⟨⟨la, a0, a1, a2⟩, ⟨lb, x0, x1, x2⟩, ⟨lc, y0, y1, y2⟩, hB⟩ := hT
  go_upto_region 5 with fail
  go_cut [9] (fun s9 wx => s9 = .nilIface ∧ T3 w w.heap.size (w.heap.size + 1) (w.heap.size + 1 + 1) k n s k' n' s' k2 n2 s2 wx)
  case first =>
    go_wp2_with fail
    refine (check_yes _ _ _ _ HV'.out).mono ?_
    rintro e w1 ⟨rfl, h1⟩
    go_wp2_with fail
    go_meet
    case rel => exact ⟨rfl, hT.next h1⟩
  case rest =>
  clear hT la a0 a1 a2 lb x0 x1 x2 lc y0 y1 y2 hB
  obtain ⟨rfl, hT⟩ := hcut
  have ⟨⟨la, a0, a1, a2⟩, ⟨lb, x0, x1, x2⟩, ⟨lc, y0, y1, y2⟩, hB⟩ := hT
  go_upto_region 6 with fail
  go_cut [10] (fun s10 wx => s10 = .iface 42 (.int .i64 1) ∧ T3 w w.heap.size (w.heap.size + 1) (w.heap.size + 1 + 1) k n s k' n' s' k2 n2 s2 wx)
  case first =>
    go_wp2_with fail
    refine (check_no _ _ _ _ HV2.out).mono ?_
    rintro e w1 ⟨rfl, h1⟩
    go_wp2_with fail
    go_meet
    case rel => exact ⟨rfl, hT.next h1⟩
  case rest =>
  clear hT la a0 a1 a2 lb x0 x1 x2 lc y0 y1 y2 hB
  obtain ⟨rfl, hT⟩ := hcut
  have ⟨⟨la, a0, a1, a2⟩, ⟨lb, x0, x1, x2⟩, ⟨lc, y0, y1, y2⟩, hB⟩ := hT
  go_wp2_with fail
  go_ret
  exact ⟨rfl, hB⟩
theorem law_any (k n : Int) (s : ByteArray) (k' n' : Int) (s' : ByteArray) (k2 n2 : Int) (s2 : ByteArray) (w : World) :
    Calls Tryd.prog 5 #[V k n s, V k' n' s', V k2 n2 s2] w fun e w' => e = .returned (.bool true) ∧ Below w.heap.size w w' := by
  cases ha : isVal k n s
  · exact law_no_a k n s k' n' s' k2 n2 s2 w ha
  cases hb : isVal k' n' s'
  · exact law_no_b k n s k' n' s' k2 n2 s2 w ha hb
  cases hc : isVal k2 n2 s2
  · exact law_no_c k n s k' n' s' k2 n2 s2 w ha hb hc
  exact law_vals k n s k' n' s' k2 n2 s2 w ha hb hc
end Go.Proofs.YtgoadofnfaidcaaDoor
