
/- A number by a code: the program's show, walked. Conditions: as each theorem says. -/
import Derived.Test.YtnelglmbckgbgaaGreatDoorFxc
import Derived.Lib.ItoaLen
namespace Go.Proofs.YtnelglmbckgbgaaGreatDoor.fw
open Go.RowKit Go.Sort
/-- The digits of a number, with noughts ahead. -/
def padL (k : LK) (n : Int) : List UInt8 := List.replicate (k.digits + k.places - (Lib.decDigits n.natAbs).length) 48 ++ Lib.decDigits n.natAbs
def wholeL (k : LK) (n : Int) : List UInt8 := (padL k n).take ((padL k n).length - k.places)
def partsL (k : LK) (n : Int) : List UInt8 := (padL k n).drop ((padL k n).length - k.places)
/-- A number by a code. -/
def showL (k : LK) (n : Int) : List UInt8 :=
  (if n < 0 then [45] else []) ++ (k.ahead ++ (if k.three = true then cs true (wholeL k n) else wholeL k n) ++ (if 0 < k.places then 46 :: partsL k n else partsL k n) ++ k.behind)
theorem dec_len (n : Int) (h0 : -9223372036854775808 ≤ n) (h1 : n ≤ 9223372036854775807) : (Lib.decDigits n.natAbs).length ≤ 20 := by
  rw [Lib.decDigits_length]
  exact Lib.nDigits_le20 _ (by omega)
theorem dec_pos (u : Nat) : 0 < (Lib.decDigits u).length := by
  rw [Lib.decDigits_length]
  exact Lib.nDigits_pos u
theorem dg_digit (u t : Nat) : 48 ≤ (Lib.dg u t).toNat ∧ (Lib.dg u t).toNat ≤ 57 := by
  unfold Lib.dg
  have h : 48 + u / 10 ^ t % 10 < 256 := by omega
  rw [UInt8.toNat_ofNat', Nat.mod_eq_of_lt h]
  omega
theorem dec_digit (u : Nat) : ∀ b ∈ Lib.decDigits u, 48 ≤ b.toNat ∧ b.toNat ≤ 57 := by
  intro b hb
  rw [Lib.decDigits_eq] at hb
  obtain ⟨t, -, rfl⟩ := List.mem_map.1 hb
  exact dg_digit _ _
theorem dec_head45 (u : Nat) : (Lib.decDigits u).head? ≠ some 45 := by
  intro h
  have := dec_digit u 45 (by rw [head_cons h]; simp)
  simp at this
theorem padL_len (k : LK) (n : Int) : k.places ≤ (padL k n).length ∧ (padL k n).length ≤ k.digits + k.places + (Lib.decDigits n.natAbs).length ∧ k.digits ≤ (padL k n).length - k.places := by
  unfold padL
  rw [List.length_append, List.length_replicate]
  omega
/-- The code beside a number, in a block of its own. -/
structure SB (w : World) (k : LK) (wx : World) : Prop where
  blk : wx.heap[w.heap.size]? = some (.cells #[.string (txt k.ahead), .bool k.three, .int .i64 (k.digits : Int), .int .i64 (k.places : Int), .string (txt k.behind)] 47 (0, 0))
  below : Bw w wx
theorem SB.next {w wx wy : World} {k : LK} (h : SB w k wx) (hb : Bw wx wy) : SB w k wy :=
  ⟨by rw [hb.block _ (Array.getElem?_eq_some_iff.1 h.blk).1]; exact h.blk, h.below.tr hb⟩
theorem SB.cells {w wx : World} {k : LK} (h : SB w k wx) : wx.cell? ⟨w.heap.size, 0, none⟩ = some (.string (txt k.ahead)) ∧ wx.cell? ⟨w.heap.size, 1, none⟩ = some (.bool k.three) ∧ wx.cell? ⟨w.heap.size, 2, none⟩ = some (.int .i64 (k.digits : Int)) ∧ wx.cell? ⟨w.heap.size, 3, none⟩ = some (.int .i64 (k.places : Int)) ∧ wx.cell? ⟨w.heap.size, 4, none⟩ = some (.string (txt k.behind)) := by
  simp only [World.cell?, h.blk]
  exact ⟨rfl, rfl, rfl, rfl, rfl⟩
theorem SB.new (w : World) (k : LK) : SB w k (w.alloc (.cells #[.string (txt k.ahead), .bool k.three, .int .i64 (k.digits : Int), .int .i64 (k.places : Int), .string (txt k.behind)] 47)) := ⟨heap_alloc_new w _, Bw.al _ _⟩
/-- The whole of the digits, as it is shown; and what is behind the point. -/
def wT (k : LK) (n : Int) : List UInt8 := if k.three = true then cs true (wholeL k n) else wholeL k n
def pT (k : LK) (n : Int) : List UInt8 := if 0 < k.places then 46 :: partsL k n else partsL k n
def sgn (n : Int) (l : List UInt8) : List UInt8 := if n < 0 then 45 :: l else l
theorem showL_is (k : LK) (n : Int) : showL k n = sgn n (k.ahead ++ wT k n ++ pT k n ++ k.behind) := by
  unfold showL sgn wT pT
  split <;> rfl
set_option maxRecDepth 100000 in
set_option maxHeartbeats 4000000 in
theorem show_any (k : LK) (n : Int) (w : World) (h0 : -9223372036854775808 ≤ n) (h1 : n ≤ 9223372036854775807) (ha : k.ahead.length ≤ 41) (hbh : k.behind.length ≤ 41) (hd : k.digits ≤ 41) (hp : k.places ≤ 10)
    (HI : Hid (∀ wx, Bw w wx → Calls Tryz.prog 31 #[.int .i64 n] wx fun e w' => e = .returned (.string (txt (Lib.itoa n))) ∧ Bw wx w')) :
    Calls Tryz.prog 20 #[lkV k, .int .i64 n] w fun e w' => e = .returned (.string (txt (showL k n))) ∧ Bw w w' := by
  have hdl := dec_len n h0 h1
  have hpad := padL_len k n
  have HD : Hid (∀ wx, Calls Tryz.prog 26 #[.string (txt (Lib.itoa n)), .string ⟨#[45]⟩] wx fun e w' => e = .returned (.tuple #[.string (txt (Lib.decDigits n.natAbs)), .bool (decide (n < 0))]) ∧ w' = wx) := fun wx => by
    by_cases hn : n < 0
    · rw [decide_eq_true hn, show Lib.itoa n = [45] ++ Lib.decDigits n.natAbs by unfold Lib.itoa; rw [if_pos hn]; rfl]
      exact cp_yes [45] _ wx
    · rw [decide_eq_false hn, show Lib.itoa n = Lib.decDigits n.natAbs by unfold Lib.itoa; rw [if_neg hn]; congr 1; omega]
      exact cp_not 45 _ (dec_head45 _) wx
  have HZ : Hid (∀ wx, Calls Tryz.prog 34 #[.string (txt (Lib.decDigits n.natAbs)), .int .i64 ((k.digits : Int) + (k.places : Int))] wx fun e w' => e = .returned (.string (txt (padL k n))) ∧ Bw wx w') := fun wx => by
    have := zerosAhead_any (Lib.decDigits n.natAbs) (k.digits + k.places) wx (by omega) (by omega)
    rw [show ((k.digits + k.places : Nat) : Int) = (k.digits : Int) + (k.places : Int) by omega] at this
    exact this
  have HC : Hid (∀ wx, Calls Tryz.prog 35 #[.string (txt (wholeL k n))] wx fun e w' => e = .returned (.string (txt (cs true (wholeL k n)))) ∧ Bw wx w') := fun wx => commas_any _ wx (by unfold wholeL; rw [List.length_take]; omega)
  have ex1 : (txt (padL k n)).extract 0 ((padL k n).length - k.places) = txt (wholeL k n) := by rw [txt_ext]; rfl
  have ex2 : (txt (padL k n)).extract ((padL k n).length - k.places) (txt (padL k n)).size = txt (partsL k n) := by rw [txt_ext, txt_len, List.take_length]; rfl
  have HW : Hid (k.three = true → txt (wT k n) = txt (cs true (wholeL k n))) := fun h => by unfold wT; rw [if_pos h]
  have HW2 : Hid (k.three = false → txt (wT k n) = txt (wholeL k n)) := fun h => by unfold wT; rw [if_neg (by rw [h]; decide)]
  have HP : Hid (0 < k.places → txt (pT k n) = ⟨#[46]⟩ ++ txt (partsL k n)) := fun h => by unfold pT; rw [if_pos h]; exact (txt_app [46] _).symm
  have HP2 : Hid (¬ 0 < k.places → txt (pT k n) = txt (partsL k n)) := fun h => by unfold pT; rw [if_neg h]
  have HR1 : Hid (n < 0 → txt (showL k n) = ⟨#[45]⟩ ++ (txt k.ahead ++ txt (wT k n) ++ txt (pT k n) ++ txt k.behind)) := fun h => by
    rw [showL_is]; unfold sgn; rw [if_pos h, txt_app, txt_app, txt_app]; exact (txt_app [45] _).symm
  have HR2 : Hid (¬ n < 0 → txt (showL k n) = txt k.ahead ++ txt (wT k n) ++ txt (pT k n) ++ txt k.behind) := fun h => by
    rw [showL_is]; unfold sgn; rw [if_neg h, txt_app, txt_app, txt_app]
  have sz1 : (txt (padL k n)).size = (padL k n).length := rfl
  have sw : (txt (wholeL k n)).size ≤ 200 := by rw [txt_len]; unfold wholeL; rw [List.length_take]; omega
  have sp : (txt (partsL k n)).size ≤ 200 := by rw [txt_len]; unfold partsL; rw [List.length_drop]; omega
  have swt : (txt (wT k n)).size ≤ 400 := by
    rw [txt_len] at sw ⊢
    unfold wT
    split
    · have := cs_len true (wholeL k n); omega
    · omega
  have spt : (txt (pT k n)).size ≤ 400 := by
    rw [txt_len] at sp ⊢
    unfold pT
    split
    · simp; omega
    · omega
  have sa : (txt k.ahead).size ≤ 200 := by rw [txt_len]; omega
  have sb : (txt k.behind).size ≤ 200 := by rw [txt_len]; omega
  have S0 := SB.new w k
  have SC : Hid (∀ wx, SB w k wx → wx.cell? ⟨w.heap.size, 0, none⟩ = some (.string (txt k.ahead)) ∧ wx.cell? ⟨w.heap.size, 1, none⟩ = some (.bool k.three) ∧ wx.cell? ⟨w.heap.size, 2, none⟩ = some (.int .i64 (k.digits : Int)) ∧ wx.cell? ⟨w.heap.size, 3, none⟩ = some (.int .i64 (k.places : Int)) ∧ wx.cell? ⟨w.heap.size, 4, none⟩ = some (.string (txt k.behind))) := fun wx h => h.cells
  unfold lkV
  generalize txt (padL k n) = P at *
  generalize (padL k n).length = N at *
  generalize txt (wholeL k n) = TW at *
  generalize txt (cs true (wholeL k n)) = TC at *
  generalize txt (partsL k n) = TP at *
  generalize txt (wT k n) = W2 at *
  generalize txt (pT k n) = P2 at *
  generalize txt (showL k n) = RS at *
  generalize txt (Lib.decDigits n.natAbs) = DT at *
  generalize txt (Lib.itoa n) = IT at *
  obtain ⟨A, hA⟩ : ∃ A, txt k.ahead = A := ⟨_, rfl⟩
  obtain ⟨BH, hBH⟩ : ∃ B, txt k.behind = B := ⟨_, rfl⟩
  obtain ⟨d, hdd⟩ : ∃ d, k.digits = d := ⟨_, rfl⟩
  obtain ⟨p, hpp⟩ : ∃ p, k.places = p := ⟨_, rfl⟩
  obtain ⟨t, htt⟩ : ∃ t, k.three = t := ⟨_, rfl⟩
  rw [hA, hBH] at SC S0
  rw [hA] at sa HR1 HR2
  rw [hBH] at sb HR1 HR2
  rw [hdd] at SC S0 HZ hd
  rw [hpp] at SC S0 HZ hp HP HP2 ex1 ex2
  rw [htt] at SC S0 HW HW2
  rw [hpp, hdd] at hpad
  rw [hA, hBH, hdd, hpp, htt]
  have hN100 : N ≤ 200 := by omega
  clear hA hBH hdd hpp htt ha hbh hdl
  have hpN : p ≤ N := hpad.1
  have hsub : (N : Int) - (p : Int) = ((N - p : Nat) : Int) := by omega
  have hlo : (0 : Int) ≤ ((N - p : Nat) : Int) := by omega
  have hhi : ((N - p : Nat) : Int) ≤ (P.size : Int) := by omega
  have hhi2 : N - p ≤ P.size := by omega
  clear hpad
  rw [sz1] at ex2
  go_enter Tryz.func20, Tryz.ntmps20
  go_upto_region 1 with fail
  generalize (w.alloc (.cells #[.string A, .bool t, .int .i64 (d : Int), .int .i64 (p : Int), .string BH] 47)) = wa at *
  go_wp2_with fail
  refine (HI.out _ S0.below).mono ?_
  rintro e w1 ⟨rfl, hb1⟩
  have S1 : Hid (SB w k w1) := S0.next hb1
  clear S0 hb1 HI
  go_wp2_with fail
  refine (HD.out _).mono ?_
  rintro e w2 ⟨rfl, rfl⟩
  clear HD
  obtain ⟨-, -, c2, c3, -⟩ := SC.out _ S1.out
  go_wp2_with fail
  refine (HZ.out _).mono ?_
  rintro e w3 ⟨rfl, hb3⟩
  have S3 : Hid (SB w k w3) := S1.out.next hb3
  clear S1 hb3 HZ c2 c3
  obtain ⟨-, c1, -, c3, -⟩ := SC.out _ S3.out
  go_upto_region 4 with fail
  go_quiet (fail)
  go_upto_region 5 with fail
  have S4 : Hid (SB w k (w3.drewN nq)) := S3.out.next (drewN_bw' _ _)
  generalize w3.drewN nq = w4 at *
  clear S3 c1 c3
  obtain ⟨-, c1, -, c3, -⟩ := SC.out _ S4.out
  go_cut [36] (fun s36 wx => s36 = .bool t ∧ wx = w4)
  case first =>
    go_wp2_with fail
    go_meet
    case rel => exact ⟨by simp, rfl⟩
  case rest =>
  obtain ⟨rfl, rfl⟩ := hcut
  apply_assumption
  go_cut [8] (fun s8 wx => s8 = .string W2 ∧ Hid (SB w k wx))
  case first =>
    cases t with
    | true =>
      have hW := HW.out rfl
      subst hW
      go_wp2_with fail
      refine (HC.out _).mono ?_
      rintro e w5 ⟨rfl, hb5⟩
      have S5 : Hid (SB w k w5) := S4.out.next hb5
      clear hb5
      go_wp2_with fail
      go_meet
      case rel => exact ⟨rfl, S5⟩
    | false =>
      have hW := HW2.out rfl
      subst hW
      go_wp2_with fail
      go_meet
      case rel => exact ⟨rfl, S4⟩
  case rest =>
  obtain ⟨rfl, S5⟩ := hcut
  clear S4 c1 c3 HC HW HW2
  obtain ⟨-, -, -, c3, -⟩ := SC.out _ S5.out
  apply_assumption
  generalize wc = w5 at *
  go_upto_region 7 with fail
  go_cut [41] (fun s41 wx => s41 = .bool (decide (0 < p)) ∧ wx = w5)
  case first =>
    by_cases h9 : 0 < p
    · have h9' : (p : Int) > 0 := by omega
      go_wp2_with fail
      go_meet
      case rel => exact ⟨by simp [h9], rfl⟩
    · have h9' : ¬ (p : Int) > 0 := by omega
      go_wp2_with fail
      go_meet
      case rel => exact ⟨by simp; omega, rfl⟩
  case rest =>
  obtain ⟨rfl, rfl⟩ := hcut
  apply_assumption
  go_cut [9] (fun s9 wx => s9 = .string P2 ∧ Hid (SB w k wx))
  case first =>
    by_cases h9 : 0 < p
    · have h9' : decide (0 < p) = true := by simp [h9]
      have hz9 : ¬ 9223372036854775807 < 1 + TP.size := by omega
      have hW := HP.out h9
      rw [h9']
      go_wp2_with fail
      go_meet
      case rel => exact ⟨by rw [hW], S5⟩
    · have h9' : decide (0 < p) = false := by simp; omega
      have hW := HP2.out (by omega)
      rw [h9']
      go_wp2_with fail
      go_meet
      case rel => exact ⟨by rw [hW], S5⟩
  case rest =>
  obtain ⟨rfl, S6⟩ := hcut
  clear S5 c3 HP HP2
  obtain ⟨c0, -, -, -, c4⟩ := SC.out _ S6.out
  apply_assumption
  generalize wc = w6 at *
  have hz1 : ¬ 9223372036854775807 < A.size + W2.size := by omega
  have hz2 : ¬ 9223372036854775807 < A.size + W2.size + P2.size := by omega
  have hz3 : ¬ 9223372036854775807 < A.size + W2.size + P2.size + BH.size := by omega
  have hz4 : ¬ 9223372036854775807 < 1 + (A.size + W2.size + P2.size + BH.size) := by omega
  have SB6 : Hid (Bw w w6) := S6.out.below
  clear SC S6
  by_cases hn : n < 0
  · have hn' : decide (n < 0) = true := by simp [hn]
    have hR := HR1.out hn
    rw [hn']
    go_wp2_with fail
    go_ret
    exact ⟨by first | rfl | (rw [hR]; rfl), SB6.out⟩
  · have hn' : decide (n < 0) = false := by simp; omega
    have hR := HR2.out (by omega)
    rw [hn']
    go_wp2_with fail
    go_ret
    exact ⟨by first | rfl | (rw [hR]; rfl), SB6.out⟩
end Go.Proofs.YtnelglmbckgbgaaGreatDoor.fw
