/- The law ValueRing returns true, for all numbers of 64 bits, and touches nothing that was there. Conditions: none beyond what the row has. -/
import Derived.Test.YtgoadofnfaidcabDoorTwo
import Derived.Deep.DeepCutAuto
import Derived.Deep.RegionWith
namespace Go.Proofs.YtgoadofnfaidcabDoor
open Go.RowKit
/-- A value lies in a block of its own. -/
structure Has (w : World) (b : Nat) (k n : Int) (s : ByteArray) : Prop where
  lt : b < w.heap.size
  c0 : w.cell? ⟨b, 0, none⟩ = some (.int .i64 k)
  c1 : w.cell? ⟨b, 1, none⟩ = some (.int .i64 n)
  c2 : w.cell? ⟨b, 2, none⟩ = some (.string s)
theorem Has.below {w w' : World} {b : Nat} {k n : Int} {s : ByteArray} (h : Has w b k n s) (hb : Below w.heap.size w w') : Has w' b k n s :=
  ⟨Nat.lt_of_lt_of_le h.lt hb.size, by rw [hb.cell h.lt]; exact h.c0, by rw [hb.cell h.lt]; exact h.c1, by rw [hb.cell h.lt]; exact h.c2⟩
theorem Has.alloc {w : World} {b : Nat} {k n : Int} {s : ByteArray} (h : Has w b k n s) (o : Obj) : Has (w.alloc o) b k n s :=
  h.below ((Below.refl _ _).alloc (Nat.le_refl _) _)
theorem Has.drew {w : World} {b : Nat} {k n : Int} {s : ByteArray} (h : Has w b k n s) : Has w.drew b k n s := ⟨h.lt, h.c0, h.c1, h.c2⟩
theorem Has.new (w : World) (k n : Int) (s : ByteArray) (t : TypeId) : Has (w.alloc (.cells #[.int .i64 k, .int .i64 n, .string s] t)) w.heap.size k n s :=
  ⟨by simp, by simp, by simp, by simp⟩
theorem bnext {B : Nat} {w x y : World} (h : Below B w x) (h2 : Below x.heap.size x y) (hB : B ≤ x.heap.size) : Below B w y := h.trans (h2.mono hB)
theorem bnew {B : Nat} {w x y : World} (h : Below B w x) (h2 : Below x.heap.size x y) (hB : B ≤ x.heap.size) (o : Obj) : Below B w (y.alloc o) := (bnext h h2 hB).alloc (Nat.le_trans hB h2.size) _
theorem works_add {x y : Int} (hx : fitsB x = true) (hy : fitsB y = true) : Works 9 x y (oK (x + y)) (oN (x + y)) := fun w => add_any x y w hx hy
theorem works_sub {x y : Int} (hx : fitsB x = true) (hy : fitsB y = true) : Works 10 x y (oK (x - y)) (oN (x - y)) := fun w => sub_any x y w hx hy
theorem works_mul {x y : Int} (hx : fitsB x = true) (hy : fitsB y = true) : Works 11 x y (oK (x * y)) (oN (x * y)) := fun w => mul_any x y w hx hy
theorem works_div {x y : Int} (hx : fitsB x = true) (hy : fitsB y = true) (h0 : y ≠ 0) : Works 12 x y (oK (x.tdiv y)) (oN (x.tdiv y)) := fun w => div_any x y w hx hy h0
theorem works_mod {x y : Int} (hy : fitsB y = true) (h0 : y ≠ 0) : Works 16 x y 1 (x.fmod y) := fun w => mod_any x y w hy h0
theorem works_div0 (x : Int) : Works 12 x 0 4 1 := fun w => div_zero x w
theorem works_mod0 (x : Int) : Works 16 x 0 4 1 := fun w => mod_zero x w
abbrev ptr (b : Nat) : Value := .pointer (some ⟨b, 0, none⟩)
set_option maxRecDepth 100000 in
set_option maxHeartbeats 2000000 in
theorem law_walk (a b : Int) (w : World) (ha : fitsB a = true) (hb : fitsB b = true) :
    Calls Tryd.prog 3 #[.int .i64 a, .int .i64 b] w fun e w' => e = .returned (.bool true) ∧ Below w.heap.size w w' := by
  have wk5 : Works 9 2 3 1 5 := works_add (x := 2) (y := 3) (by decide) (by decide)
  have wka := works_add ha hb
  have wkb := works_add hb ha
  have wkp := works_mul ha hb
  have wkq := works_mul hb ha
  rw [Int.add_comm b a] at wkb
  rw [Int.mul_comm b a] at wkq
  go_enter Tryd.func3, Tryd.ntmps3
  go_upto_region 1 with fail
  go_cut [5] (fun s5 wx => ∃ b5, s5 = ptr b5 ∧ Has wx b5 1 5 nul ∧ Below w.heap.size w wx)
  case first =>
    go_wp2_with fail
    refine (rnum_any _ _).mono ?_
    rintro e w1 ⟨rfl, h1⟩
    go_wp2_with fail
    refine (rnum_any _ _).mono ?_
    rintro e w2 ⟨rfl, h2⟩
    go_wp2_with fail
    refine (two_8 2 3 1 5 _ wk5).mono ?_
    rintro e w3 ⟨rfl, h3⟩
    go_wp2_with fail
    go_meet
    case rel => exact ⟨_, rfl, Has.new _ _ _ _ _, (bnext h1 (bnext h2 h3 h2.size) h1.size).alloc (Nat.le_trans h1.size (Nat.le_trans h2.size h3.size)) _⟩
  case rest =>
  obtain ⟨b5, rfl, H5, hB⟩ := hcut
  obtain ⟨l5, c50, c51, c52⟩ := H5
  go_upto_region 2 with fail
  go_cut [24] (fun s24 wx => s24 = .bool false ∧ Below w.heap.size w wx)
  case first =>
    go_region_with (go_at_call 5; refine (rnum_any _ _).mono ?_; rintro e w1 ⟨rfl, h1⟩; obtain ⟨j0, j1, j2, j3⟩ := Has.below (w := wc.drew) ⟨l5, c50, c51, c52⟩ h1)
    all_goals
      go_wp2_with fail
      go_meet
      case rel => exact ⟨rfl, bnext hB.drew h1 hB.size⟩
  case rest =>
  clear hB l5 c50 c51 c52
  obtain ⟨rfl, hB⟩ := hcut
  go_upto_region 4 with fail
  go_cut [6] (fun s6 wx => ∃ b6, s6 = ptr b6 ∧ Has wx b6 1 a nul ∧ Below w.heap.size w wx)
  case first =>
    go_wp2_with fail
    refine (rnum_any _ _).mono ?_
    rintro e w1 ⟨rfl, h1⟩
    go_wp2_with fail
    go_meet
    case rel => exact ⟨_, rfl, Has.new _ _ _ _ _, bnew hB h1 hB.size _⟩
  case rest =>
  clear hB
  obtain ⟨b6, rfl, H6, hB⟩ := hcut
  go_upto_region 5 with fail
  go_cut [7] (fun s7 wx => ∃ b7, s7 = ptr b7 ∧ Has wx b7 1 b nul ∧ Has wx b6 1 a nul ∧ Below w.heap.size w wx)
  case first =>
    go_wp2_with fail
    refine (rnum_any _ _).mono ?_
    rintro e w1 ⟨rfl, h1⟩
    go_wp2_with fail
    go_meet
    case rel => exact ⟨_, rfl, Has.new _ _ _ _ _, (H6.below h1).alloc _, bnew hB h1 hB.size _⟩
  case rest =>
  clear hB H6
  obtain ⟨b7, rfl, H7, H6, hB⟩ := hcut
  go_upto_region 6 with fail
  go_cut [8] (fun s8 wx => ∃ b8, s8 = ptr b8 ∧ Has wx b8 (oK (a + b)) (oN (a + b)) nul ∧ Has wx b6 1 a nul ∧ Has wx b7 1 b nul ∧ Below w.heap.size w wx)
  case first =>
    have ⟨l6, c60, c61, c62⟩ := H6
    have ⟨l7, c70, c71, c72⟩ := H7
    go_wp2_with fail
    refine (two_8 a b _ _ _ wka).mono ?_
    rintro e w1 ⟨rfl, h1⟩
    go_wp2_with fail
    go_meet
    case rel => exact ⟨_, rfl, Has.new _ _ _ _ _, (H6.below h1).alloc _, (H7.below h1).alloc _, bnew hB h1 hB.size _⟩
  case rest =>
  clear hB H6 H7
  obtain ⟨b8, rfl, H8, H6, H7, hB⟩ := hcut
  go_upto_region 7 with fail
  go_cut [9] (fun s9 wx => ∃ b9, s9 = ptr b9 ∧ Has wx b9 (oK (a + b)) (oN (a + b)) nul ∧ Has wx b6 1 a nul ∧ Has wx b7 1 b nul ∧ Has wx b8 (oK (a + b)) (oN (a + b)) nul ∧ Below w.heap.size w wx)
  case first =>
    have ⟨l6, c60, c61, c62⟩ := H6
    have ⟨l7, c70, c71, c72⟩ := H7
    go_wp2_with fail
    refine (two_8 b a _ _ _ wkb).mono ?_
    rintro e w1 ⟨rfl, h1⟩
    go_wp2_with fail
    go_meet
    case rel => exact ⟨_, rfl, Has.new _ _ _ _ _, (H6.below h1).alloc _, (H7.below h1).alloc _, (H8.below h1).alloc _, bnew hB h1 hB.size _⟩
  case rest =>
  clear hB H6 H7 H8
  obtain ⟨b9, rfl, H9, H6, H7, H8, hB⟩ := hcut
  go_upto_region 8 with fail
  go_cut [10] (fun s10 wx => ∃ b10, s10 = ptr b10 ∧ Has wx b10 (oK (a * b)) (oN (a * b)) nul ∧ Has wx b6 1 a nul ∧ Has wx b7 1 b nul ∧ Has wx b8 (oK (a + b)) (oN (a + b)) nul ∧ Has wx b9 (oK (a + b)) (oN (a + b)) nul ∧ Below w.heap.size w wx)
  case first =>
    have ⟨l6, c60, c61, c62⟩ := H6
    have ⟨l7, c70, c71, c72⟩ := H7
    go_wp2_with fail
    refine (two_10 a b _ _ _ wkp).mono ?_
    rintro e w1 ⟨rfl, h1⟩
    go_wp2_with fail
    go_meet
    case rel => exact ⟨_, rfl, Has.new _ _ _ _ _, (H6.below h1).alloc _, (H7.below h1).alloc _, (H8.below h1).alloc _, (H9.below h1).alloc _, bnew hB h1 hB.size _⟩
  case rest =>
  clear hB H6 H7 H8 H9
  obtain ⟨b10, rfl, H10, H6, H7, H8, H9, hB⟩ := hcut
  go_upto_region 9 with fail
  go_cut [11] (fun s11 wx => ∃ b11, s11 = ptr b11 ∧ Has wx b11 (oK (a * b)) (oN (a * b)) nul ∧ Has wx b6 1 a nul ∧ Has wx b7 1 b nul ∧ Has wx b8 (oK (a + b)) (oN (a + b)) nul ∧ Has wx b9 (oK (a + b)) (oN (a + b)) nul ∧ Has wx b10 (oK (a * b)) (oN (a * b)) nul ∧ Below w.heap.size w wx)
  case first =>
    have ⟨l6, c60, c61, c62⟩ := H6
    have ⟨l7, c70, c71, c72⟩ := H7
    go_wp2_with fail
    refine (two_10 b a _ _ _ wkq).mono ?_
    rintro e w1 ⟨rfl, h1⟩
    go_wp2_with fail
    go_meet
    case rel => exact ⟨_, rfl, Has.new _ _ _ _ _, (H6.below h1).alloc _, (H7.below h1).alloc _, (H8.below h1).alloc _, (H9.below h1).alloc _, (H10.below h1).alloc _, bnew hB h1 hB.size _⟩
  case rest =>
  clear hB H6 H7 H8 H9 H10
  obtain ⟨b11, rfl, H11, H6, H7, H8, H9, H10, hB⟩ := hcut
  obtain ⟨l10, c100, c101, c102⟩ := H10
  obtain ⟨l11, c110, c111, c112⟩ := H11
  obtain ⟨l9, c90, c91, c92⟩ := H9
  have ⟨l8, c80, c81, c82⟩ := H8
  go_upto_if 51 with fail
  go_cut [] (fun wx => Has wx b6 1 a nul ∧ Has wx b7 1 b nul ∧ Below w.heap.size w wx)
  case first =>
    by_cases hs : fitsB (a + b) = true
    · have e1 := oK_yes hs
      have e2 := oN_yes hs
      have wks : Works 10 (a + b) b 1 a := by
        have h := works_sub hs hb
        rw [Int.add_sub_cancel, oK_yes ha, oN_yes ha] at h
        exact h
      clear wk5 wka wkb wkp wkq hs
      have ⟨l6, c60, c61, c62⟩ := H6
      have ⟨l7, c70, c71, c72⟩ := H7
      go_wp2_with fail
      refine (two_9 _ _ _ _ _ wks).mono ?_
      rintro e w1 ⟨rfl, h1⟩
      obtain ⟨m60, m61, m62, m63⟩ := H6.below h1
      go_wp2_with fail
      go_meet
      case rel => exact ⟨(H6.below h1).alloc _, (H7.below h1).alloc _, bnew hB h1 hB.size _⟩
    · have e1 : (oK (a + b) == 1) = false := by rw [oK_no hs]; rfl
      clear wk5 wka wkb wkp wkq hs
      go_wp2_with fail
      go_meet
      case rel => exact ⟨H6, H7, hB⟩
  case rest =>
  clear hB H6 H7 H8
  obtain ⟨H6, H7, hB⟩ := hcut
  clear wk5 wka wkb wkp wkq
  by_cases h0 : b = 0
  · subst h0
    have wkd := works_div0 a
    have wkm := works_mod0 a
    go_upto_region 17 with fail
    go_cut [13] (fun s13 wx => ∃ b13, s13 = ptr b13 ∧ Has wx b13 4 1 nul ∧ Has wx b6 1 a nul ∧ Has wx b7 1 0 nul ∧ Below w.heap.size w wx)
    case first =>
      have ⟨l6, c60, c61, c62⟩ := H6
      have ⟨l7, c70, c71, c72⟩ := H7
      go_wp2_with fail
      refine (two_11 _ _ _ _ _ wkd).mono ?_
      rintro e w1 ⟨rfl, h1⟩
      go_wp2_with fail
      go_meet
      case rel => exact ⟨_, rfl, Has.new _ _ _ _ _, (H6.below h1).alloc _, (H7.below h1).alloc _, bnew hB h1 hB.size _⟩
    case rest =>
    clear hB H6 H7
    obtain ⟨b13, rfl, H13, H6, H7, hB⟩ := hcut
    go_upto_region 18 with fail
    go_cut [14] (fun s14 wx => ∃ b14, s14 = ptr b14 ∧ Has wx b14 4 1 nul ∧ Has wx b6 1 a nul ∧ Has wx b7 1 0 nul ∧ Has wx b13 4 1 nul ∧ Below w.heap.size w wx)
    case first =>
      have ⟨l6, c60, c61, c62⟩ := H6
      have ⟨l7, c70, c71, c72⟩ := H7
      go_wp2_with fail
      refine (mod_two _ _ _ _ _ wkm).mono ?_
      rintro e w1 ⟨rfl, h1⟩
      go_wp2_with fail
      go_meet
      case rel => exact ⟨_, rfl, Has.new _ _ _ _ _, (H6.below h1).alloc _, (H7.below h1).alloc _, (H13.below h1).alloc _, bnew hB h1 hB.size _⟩
    case rest =>
    clear hB H6 H7 H13
    obtain ⟨b14, rfl, H14, H6, H7, H13, hB⟩ := hcut
    clear H6 H7 wkd wkm
    have ⟨l13, c130, c131, c132⟩ := H13
    have ⟨l14, c140, c141, c142⟩ := H14
    go_upto_region 19 with fail
    go_cut [4] (fun s4 wx => s4 = .bool true ∧ Below w.heap.size w wx)
    case first =>
      go_region_with (go_at_call 7; refine (rbad_any _ _).mono ?_; rintro e w1 ⟨rfl, h1⟩; have G13 : Has w1 b13 4 1 nul := Has.below (by first | assumption | exact H13.drew) h1; have G14 : Has w1 b14 4 1 nul := Has.below (by first | assumption | exact H14.drew) h1; have D : Below w.heap.size w w1 := bnext (by first | assumption | exact hB.drew) h1 (by first | exact hB.size | (apply Below.size; assumption)); have ⟨f0, f1, f2, f3⟩ := G13; have ⟨g0, g1, g2, g3⟩ := G14)
      all_goals
        go_wp2_with fail
        go_meet
        case rel => exact ⟨rfl, D⟩
    case rest =>
    clear hB
    obtain ⟨rfl, hB⟩ := hcut
    go_wp2_with fail
    go_ret
    exact ⟨rfl, hB⟩
  · have wkm := works_mod (x := a) hb h0
    have b0 : (b == 0) = false := beq_eq_false_iff_ne.2 h0
    go_upto_region 20 with fail
    go_cut [15] (fun s15 wx => ∃ b15, s15 = ptr b15 ∧ Has wx b15 1 (a.fmod b) nul ∧ Has wx b6 1 a nul ∧ Has wx b7 1 b nul ∧ Below w.heap.size w wx)
    case first =>
      have ⟨l6, c60, c61, c62⟩ := H6
      have ⟨l7, c70, c71, c72⟩ := H7
      go_wp2_with fail
      refine (mod_two _ _ _ _ _ wkm).mono ?_
      rintro e w1 ⟨rfl, h1⟩
      go_wp2_with fail
      go_meet
      case rel => exact ⟨_, rfl, Has.new _ _ _ _ _, (H6.below h1).alloc _, (H7.below h1).alloc _, bnew hB h1 hB.size _⟩
    case rest =>
    clear hB H6 H7
    obtain ⟨b15, rfl, H15, H6, H7, hB⟩ := hcut
    clear wkm
    have hm := fits_fmod (x := a) hb h0
    have sg := fmod_sign (x := a) h0
    have wks := works_sub ha hm
    have bm := back_mul (x := a) (y := b)
    go_upto_region 21 with fail
    go_cut [92] (fun s92 wx => s92 = .bool false ∧ wx = wc)
    case first =>
      have ⟨l15, c150, c151, c152⟩ := H15
      clear bm wks hm
      by_cases g0 : a.fmod b = 0
      · have e0 : (a.fmod b != 0) = false := by simp [g0]
        clear sg g0
        go_wp2_with fail
        go_meet
        case rel => exact ⟨by simp, rfl⟩
      · have e0 : (a.fmod b != 0) = true := bne_iff_ne.2 g0
        have g : a.fmod b < 0 ↔ b < 0 := by
          rcases sg with g | g
          · exact absurd g g0
          · exact g
        clear sg
        by_cases g1 : b < 0
        · have g2 : a.fmod b < 0 := g.2 g1
          clear g g0
          go_wp2_with fail
          go_meet
          case rel => exact ⟨by simp, rfl⟩
        · have g2 : ¬ a.fmod b < 0 := fun h => g1 (g.1 h)
          clear g g0
          go_wp2_with fail
          go_meet
          case rel => exact ⟨by simp, rfl⟩
    case rest =>
    obtain ⟨rfl, rfl⟩ := hcut
    go_upto_region 23 with fail
    go_cut [16] (fun s16 wx => ∃ b16, s16 = ptr b16 ∧ Has wx b16 (oK (a - a.fmod b)) (oN (a - a.fmod b)) nul ∧ Has wx b7 1 b nul ∧ Below w.heap.size w wx)
    case first =>
      have ⟨l6, c60, c61, c62⟩ := H6
      have ⟨l15, c150, c151, c152⟩ := H15
      go_wp2_with fail
      refine (two_9 _ _ _ _ _ wks).mono ?_
      rintro e w1 ⟨rfl, h1⟩
      go_wp2_with fail
      go_meet
      case rel => exact ⟨_, rfl, Has.new _ _ _ _ _, (H7.below h1).alloc _, bnew hB h1 hB.size _⟩
    case rest =>
    clear hB H6 H7 H15 wks sg
    obtain ⟨b16, rfl, H16, H7, hB⟩ := hcut
    by_cases hd : fitsB (a - a.fmod b) = true
    case neg =>
      have e1 : (oK (a - a.fmod b) != 1) = true := by rw [oK_no hd]; rfl
      have ⟨l16, c160, c161, c162⟩ := H16
      clear bm hd hm
      go_wp2_with fail
      go_ret
      exact ⟨rfl, hB⟩
    rw [oK_yes hd, oN_yes hd] at H16
    have wkd := works_div hd hb h0
    have ⟨l16, c160, c161, c162⟩ := H16
    go_upto_region 26 with fail
    go_cut [17] (fun s17 wx => ∃ b17, s17 = ptr b17 ∧ Has wx b17 (oK ((a - a.fmod b).tdiv b)) (oN ((a - a.fmod b).tdiv b)) nul ∧ Has wx b7 1 b nul ∧ Has wx b16 1 (a - a.fmod b) nul ∧ Below w.heap.size w wx)
    case first =>
      have ⟨l7, c70, c71, c72⟩ := H7
      have ⟨l16, c160, c161, c162⟩ := H16
      go_wp2_with fail
      refine (two_11 _ _ _ _ _ wkd).mono ?_
      rintro e w1 ⟨rfl, h1⟩
      go_wp2_with fail
      go_meet
      case rel => exact ⟨_, rfl, Has.new _ _ _ _ _, (H7.below h1).alloc _, (H16.below h1).alloc _, bnew hB h1 hB.size _⟩
    case rest =>
    clear hB H7 H16 wkd l16 c160 c161 c162
    obtain ⟨b17, rfl, H17, H7, H16, hB⟩ := hcut
    by_cases hq : fitsB ((a - a.fmod b).tdiv b) = true
    case neg =>
      have e1 : (oK ((a - a.fmod b).tdiv b) != 1) = true := by rw [oK_no hq]; rfl
      have ⟨l17, c170, c171, c172⟩ := H17
      clear bm hq hm hd
      go_wp2_with fail
      go_ret
      exact ⟨rfl, hB⟩
    rw [oK_yes hq, oN_yes hq] at H17
    have wkp := works_mul hq hb
    rw [bm, oK_yes hd, oN_yes hd] at wkp
    clear bm hq hm hd
    have ⟨l17, c170, c171, c172⟩ := H17
    go_upto_region 29 with fail
    go_cut [18] (fun s18 wx => ∃ b18, s18 = ptr b18 ∧ Has wx b18 1 (a - a.fmod b) nul ∧ Has wx b16 1 (a - a.fmod b) nul ∧ Below w.heap.size w wx)
    case first =>
      have ⟨l7, c70, c71, c72⟩ := H7
      have ⟨l17, c170, c171, c172⟩ := H17
      go_wp2_with fail
      refine (two_10 _ _ _ _ _ wkp).mono ?_
      rintro e w1 ⟨rfl, h1⟩
      go_wp2_with fail
      go_meet
      case rel => exact ⟨_, rfl, Has.new _ _ _ _ _, (H16.below h1).alloc _, bnew hB h1 hB.size _⟩
    case rest =>
    clear hB H7 H16 H17 wkp l17 c170 c171 c172
    obtain ⟨b18, rfl, H18, H16, hB⟩ := hcut
    have ⟨l18, c180, c181, c182⟩ := H18
    have ⟨l16, c160, c161, c162⟩ := H16
    go_wp2_with fail
    go_ret
    exact ⟨by simp, hB⟩
end Go.Proofs.YtgoadofnfaidcabDoor
