
/- The document's Show, walked. Conditions: as each theorem says. -/
import Derived.Test.YtnelglmbckgbgaaGreatDoorFzf
import Derived.Test.YtnelglmbckgbgaaGreatDoorFzg
import Derived.Test.YtnelglmbckgbgaaGreatDoorFze
namespace Go.Proofs.YtnelglmbckgbgaaGreatDoor.fw
open Go.RowKit Go.Sort
/-- The code beside a number, in a block of its own. -/
structure SF (w : World) (k : LK) (wx : World) : Prop where
  blk : wx.heap[w.heap.size]? = some (.cells #[.string (txt k.ahead), .string (txt k.behind), .bool k.three, .int .i64 (k.digits : Int), .int .i64 (k.places : Int)] 26 (0, 0))
  below : Bw w wx
theorem SF.next {w wx wy : World} {k : LK} (h : SF w k wx) (hb : Below (w.heap.size + 1) wx wy) : SF w k wy :=
  ⟨by rw [hb.block _ (Nat.lt_succ_self _)]; exact h.blk, h.below.trans (hb.mono (Nat.le_succ _))⟩
theorem SF.cells {w wx : World} {k : LK} (h : SF w k wx) : wx.cell? ⟨w.heap.size, 0, none⟩ = some (.string (txt k.ahead)) ∧ wx.cell? ⟨w.heap.size, 1, none⟩ = some (.string (txt k.behind)) ∧ wx.cell? ⟨w.heap.size, 2, none⟩ = some (.bool k.three) ∧ wx.cell? ⟨w.heap.size, 3, none⟩ = some (.int .i64 (k.digits : Int)) ∧ wx.cell? ⟨w.heap.size, 4, none⟩ = some (.int .i64 (k.places : Int)) := by
  simp only [World.cell?, h.blk]
  exact ⟨rfl, rfl, rfl, rfl, rfl⟩
theorem SF.lt {w wx : World} {k : LK} (h : SF w k wx) : w.heap.size + 1 ≤ wx.heap.size := (Array.getElem?_eq_some_iff.1 h.blk).1
theorem SF.new (w : World) (k : LK) : SF w k (w.alloc (.cells #[.string (txt k.ahead), .string (txt k.behind), .bool k.three, .int .i64 (k.digits : Int), .int .i64 (k.places : Int)] 26)) := ⟨heap_alloc_new w _, Bw.al _ _⟩
theorem out_len (k : LK) (n : Int) (j : Nat) : (outL k n j).length ≤ 2 * (padL k n).length + 100 + (partsL k n).length := by
  have h1 := cs_len true ((wholeL k n).drop ((wholeL k n).length - (j - k.places)))
  have h2 := whole_len k n
  unfold outL
  split
  · rw [List.length_drop]; omega
  · rw [List.length_append]
    have h3 : (csB k.three true ((wholeL k n).drop ((wholeL k n).length - (j - k.places)))).length ≤ 2 * (padL k n).length := by
      unfold csB
      rw [List.length_drop] at h1
      split
      · omega
      · rw [List.length_drop]; omega
    have h4 : (pT k n).length ≤ 1 + (partsL k n).length := by unfold pT; split <;> simp <;> omega
    omega
set_option maxRecDepth 1000000 in
set_option maxHeartbeats 8000000 in
theorem rshow3_any (k : LK) (n : Int) (w : World) (h0 : -9223372036854775808 ≤ n) (h1 : n ≤ 9223372036854775807) (ha : k.ahead.length ≤ 41) (hbh : k.behind.length ≤ 41) (hd : k.digits ≤ 41) (hp : k.places ≤ 10) (hdp : 0 < k.digits) :
    Calls Tryz.prog 7 #[.int .i64 n, frV k] w fun e w' => e = .returned (.string (txt (showL k n))) ∧ Bw w w' := by
  have hdl := dec_len n h0 h1
  have hdpos := dec_pos n.natAbs
  have hpad := padL_len k n
  have hni := newInt_any n
  have S0 := SF.new w k
  have SC : Hid (∀ wx, SF w k wx → wx.cell? ⟨w.heap.size, 0, none⟩ = some (.string (txt k.ahead)) ∧ wx.cell? ⟨w.heap.size, 1, none⟩ = some (.string (txt k.behind)) ∧ wx.cell? ⟨w.heap.size, 2, none⟩ = some (.bool k.three) ∧ wx.cell? ⟨w.heap.size, 3, none⟩ = some (.int .i64 (k.digits : Int)) ∧ wx.cell? ⟨w.heap.size, 4, none⟩ = some (.int .i64 (k.places : Int))) := fun wx h => h.cells
  unfold frV
  have sa : (txt k.ahead).size ≤ 200 := by rw [txt_len]; omega
  have sb : (txt k.behind).size ≤ 200 := by rw [txt_len]; omega
  have HFIN : Hid (txt (showL k n) = if n < 0 then ⟨#[45]⟩ ++ (txt k.ahead ++ txt (outL k n (padL k n).length) ++ txt k.behind) else txt k.ahead ++ txt (outL k n (padL k n).length) ++ txt k.behind) := by
    show _ = _
    rw [showL_is, outL_end k n hdp, txt_app, txt_app]
    unfold sgn
    split
    · rw [show (⟨#[45]⟩ : ByteArray) = txt [45] from rfl, txt_app]
      simp
    · simp
  generalize txt (showL k n) = RS at *
  go_enter Tryz.func7, Tryz.ntmps7
  go_upto_region 1 with fail
  generalize (w.alloc (.cells #[.string (txt k.ahead), .string (txt k.behind), .bool k.three, .int .i64 (k.digits : Int), .int .i64 (k.places : Int)] 26)) = w1 at *
  have hni1 := hni w1 h0 h1
  clear hni
  go_wp2_with fail
  refine hni1.mono ?_
  rintro e w2 ⟨⟨b, rfl, hb, hbig⟩, hbw⟩
  have S2 : SF w k w2 := S0.next (hbw.mono S0.lt)
  have hbl : w.heap.size + 1 ≤ b := Nat.le_trans S0.lt hb
  clear hni1 S0 hbw hb
  have hsg := sign_any b n.natAbs (decide (n < 0)) w2 hbig
  have hab := abs_any b n.natAbs (decide (n < 0)) w2 hbig
  have e5 : (if n.natAbs = 0 then (0 : Int) else if decide (n < 0) = true then -1 else 1) = (if n < 0 then (-1 : Int) else if n = 0 then 0 else 1) := by
    by_cases hn : n < 0
    · rw [if_neg (by omega), if_pos (by simpa using hn), if_pos hn]
    · by_cases hn0 : n = 0
      · rw [if_pos (by omega), if_neg hn, if_pos hn0]
      · rw [if_neg (by omega), if_neg (by simpa using hn), if_neg hn, if_neg hn0]
  rw [e5] at hsg
  obtain ⟨sgv, hsgv⟩ : ∃ sgv, (if n < 0 then (-1 : Int) else if n = 0 then 0 else 1) = sgv := ⟨_, rfl⟩
  have hsv : sgv < 0 ↔ n < 0 := by
    rw [← hsgv]
    by_cases hn : n < 0
    · rw [if_pos hn]; omega
    · rw [if_neg hn]; split <;> omega
  rw [hsgv] at hsg
  clear e5 hsgv hbig
  obtain ⟨M, hM⟩ : ∃ M, decide (n < 0) = M := ⟨_, rfl⟩
  have HM : Hid (decide (n < 0) = M) := hM
  clear hM
  go_wp2_with fail
  refine hsg.mono ?_
  rintro e w3 ⟨rfl, rfl⟩
  clear hsg
  go_wp2_with fail
  refine hab.mono ?_
  rintro e w4 ⟨rfl, hbig, hb4⟩
  have S4 : SF w k w4 := S2.next (hb4 _ hbl)
  clear hab hb4 S2
  have hst := string_any b n.natAbs false w4 hbig (by omega) (fun _ => rfl)
  have hst2 : Calls Tryz.prog 16 #[ptr b] w4 fun e w' => e = .returned (.string (txt (Lib.decDigits n.natAbs))) ∧ Below w4.heap.size w4 w' := hst
  clear hst hbig
  go_wp2_with fail
  refine hst2.mono ?_
  rintro e w5 ⟨rfl, hb5⟩
  have S5 : SF w k w5 := S4.next (hb5.mono S4.lt)
  clear hst2 hb5 S4 hbl
  obtain ⟨c0, c1, c2, c3, c4⟩ := SC.out _ S5
  have HB5 : Hid (Bw w w5) := S5.below
  clear S5 SC
  -- what is written with one digit more
  have HAT : Hid (∀ q, q < (Lib.decDigits n.natAbs).length → ∃ d, (Lib.decDigits n.natAbs)[q]? = some d ∧ (txt (Lib.decDigits n.natAbs)).extract q (q + 1) = txt [d]) := fun q hq => by
    refine ⟨(Lib.decDigits n.natAbs)[q], List.getElem?_eq_getElem hq, ?_⟩
    rw [txt_ext, List.take_succ_eq_append_getElem hq, List.drop_append_of_le_length (by simp; omega)]
    simp
  have HLEN : Hid (∀ j, (outL k n j).length ≤ 1000) := fun j => by
    have e1 := out_len k n j
    have e2 : (partsL k n).length ≤ (padL k n).length := by unfold partsL; rw [List.length_drop]; omega
    omega
  have HLOW : Hid (∀ j d, j < (padL k n).length → (padL k n)[(padL k n).length - 1 - j]? = some d → j < k.places → txt [d] ++ txt (outL k n j) = txt (outL k n (j + 1))) := fun j d hj hd h => by
    rw [outL_low hj hd h, txt_app]
    rfl
  have HPT : Hid (∀ j d, j < (padL k n).length → (padL k n)[(padL k n).length - 1 - j]? = some d → j = k.places → 0 < k.places → txt [d] ++ (⟨#[46]⟩ ++ txt (outL k n j)) = txt (outL k n (j + 1))) := fun j d hj hd h h2 => by
    subst h
    rw [outL_at hj hd, if_pos h2, show (⟨#[46]⟩ : ByteArray) = txt [46] from rfl, txt_app, txt_app]
    rfl
  have HP0 : Hid (∀ j d, j < (padL k n).length → (padL k n)[(padL k n).length - 1 - j]? = some d → j = k.places → ¬ 0 < k.places → txt [d] ++ txt (outL k n j) = txt (outL k n (j + 1))) := fun j d hj hd h h2 => by
    subst h
    rw [outL_at hj hd, if_neg h2, txt_app]
    rfl
  have HCM : Hid (∀ j d, j < (padL k n).length → (padL k n)[(padL k n).length - 1 - j]? = some d → k.places < j → k.three = true → (j - k.places) % 3 = 0 → txt [d] ++ (⟨#[44]⟩ ++ txt (outL k n j)) = txt (outL k n (j + 1))) := fun j d hj hd h h2 h3 => by
    rw [outL_high hj hd h, if_pos ⟨h2, h3⟩, show (⟨#[44]⟩ : ByteArray) = txt [44] from rfl, txt_app, txt_app]
    rfl
  have HNC : Hid (∀ j d, j < (padL k n).length → (padL k n)[(padL k n).length - 1 - j]? = some d → k.places < j → ¬ (k.three = true ∧ (j - k.places) % 3 = 0) → txt [d] ++ txt (outL k n j) = txt (outL k n (j + 1))) := fun j d hj hd h h2 => by
    rw [outL_high hj hd h, if_neg h2, txt_app]
    rfl
  have HPL : Hid (∀ j, j < (padL k n).length ↔ (j < (Lib.decDigits n.natAbs).length ∨ j < k.places + k.digits)) := fun j => pad_lt k n j
  have HPD : Hid (∀ j, j < (Lib.decDigits n.natAbs).length → (padL k n)[(padL k n).length - 1 - j]? = (Lib.decDigits n.natAbs)[(Lib.decDigits n.natAbs).length - 1 - j]?) := fun j hj => pad_dec hj
  have HPZ : Hid (∀ j, (Lib.decDigits n.natAbs).length ≤ j → j < (padL k n).length → (padL k n)[(padL k n).length - 1 - j]? = some 48) := fun j h h2 => pad_zero h h2
  have HZERO : Hid (outL k n 0 = []) := outL_zero k n
  have hN200 : (padL k n).length ≤ 200 := by omega
  have hsd : (txt (Lib.decDigits n.natAbs)).size = (Lib.decDigits n.natAbs).length := rfl
  obtain ⟨L, hL⟩ : ∃ L, (Lib.decDigits n.natAbs).length = L := ⟨_, rfl⟩
  rw [hL] at HAT HPL HPD HPZ hsd hdl hdpos
  generalize txt (Lib.decDigits n.natAbs) = DT at *
  obtain ⟨N, hN⟩ : ∃ N, (padL k n).length = N := ⟨_, rfl⟩
  rw [hN] at HLOW HPT HP0 HCM HNC HPL HPD HPZ hN200 HFIN
  obtain ⟨A, hA⟩ : ∃ A, txt k.ahead = A := ⟨_, rfl⟩
  obtain ⟨BH, hBH⟩ : ∃ B, txt k.behind = B := ⟨_, rfl⟩
  rw [hA] at sa c0 HFIN ⊢
  rw [hBH] at sb c1 HFIN ⊢
  obtain ⟨d', hdd⟩ : ∃ d', k.digits = d' := ⟨_, rfl⟩
  obtain ⟨p, hpp⟩ : ∃ p, k.places = p := ⟨_, rfl⟩
  obtain ⟨t, htt⟩ : ∃ t, k.three = t := ⟨_, rfl⟩
  rw [hdd] at c3 HPL hd hdp ⊢
  rw [hpp] at c4 HPL HLOW HPT HP0 HCM HNC hp ⊢
  rw [htt] at c2 HCM HNC ⊢
  clear hA hBH hdd hpp htt hL hN hpad ha hbh
  go_upto_block 0 with fail
  go_cut [8] (fun s8 wx => s8 = .string (txt (outL k n N)) ∧ wx = w5)
  case first =>
    go_wp2_with fail
    go_loopw [8, 9, 10] (fun s8 s9 s10 wr => ∃ (j : Nat) (iv : Int), s9 = .int .i64 (j : Int) ∧ s8 = .string (txt (outL k n j)) ∧ s10 = .int .i64 iv ∧ Hid (iv = (L : Int) - 1 - (j : Int)) ∧ j ≤ N ∧ wr = w5) (fun _ s9 _ _ => N - (intOf s9).toNat)
    case atStart => exact ⟨0, (L : Int) - 1, rfl, by rw [HZERO.out]; rfl, by first | rfl | (congr 1), by show _ = _; omega, Nat.zero_le _, rfl⟩
    case round =>
      obtain ⟨j, iv, rfl, rfl, rfl, HIV, hjN, rfl⟩ := hrel
      have hol := HLEN.out j
      have hos : (txt (outL k n j)).size ≤ 1000 := hol
      by_cases hlt : j < N
      · have hlt2 := (HPL.out j).1 hlt
        by_cases hjL : j < L
        · obtain ⟨q, hq⟩ : ∃ q : Nat, iv = (q : Int) := ⟨iv.toNat, by have := HIV.out; omega⟩
          subst hq
          have hqL : q = L - 1 - j := by have := HIV.out; omega
          obtain ⟨d, hd1, hex⟩ := HAT.out q (by omega)
          have hdig : (padL k n)[N - 1 - j]? = some d := by rw [HPD.out j hjL, ← hqL]; exact hd1
          have hiv : (q : Int) ≥ 0 := by omega
          have hq1 : (0 : Int) ≤ (q : Int) := by omega
          have hq2 : (q : Int) ≤ (q : Int) + 1 := by omega
          have hq3 : (q : Int) + 1 ≤ (DT.size : Int) := by omega
          have hq4 : q ≤ q + 1 := by omega
          have hq5 : q + 1 ≤ DT.size := by omega
          clear hd1 hqL
          rcases Nat.lt_trichotomy j p with hjp | hjp | hjp
          · have g1 : (p : Int) > 0 := by omega
            have g2 : ((j : Int) == (p : Int)) = false := by simp; omega
            have g3 : ¬ (j : Int) > (p : Int) := by omega
            cases t with
            | true =>
              have HNX : Hid (txt [d] ++ txt (outL k n j) = txt (outL k n (j + 1))) := HLOW.out j d hlt hdig hjp
              have hz8 : ¬ 9223372036854775807 < 1 + (txt (outL k n j)).size := by omega
              have hz9 : ¬ 9223372036854775807 < 1 + (1 + (txt (outL k n j)).size) := by omega
              have hsd1 : (txt [d]).size = 1 := rfl
              clear hdig hlt2 HPL HPD HPZ HLOW HPT HP0 HCM HNC HAT HZERO HLEN hol
              generalize txt (outL k n j) = OJ at *
              generalize txt [d] = TD at *
              go_wp2_with fail
              exact ⟨⟨j + 1, (q : Int) - 1, rfl, by rw [← HNX.out], rfl, by have := HIV.out; show _ = _; omega, hlt, trivial⟩, by simp [intOf]; omega⟩
            | false =>
              have HNX : Hid (txt [d] ++ txt (outL k n j) = txt (outL k n (j + 1))) := HLOW.out j d hlt hdig hjp
              have hz8 : ¬ 9223372036854775807 < 1 + (txt (outL k n j)).size := by omega
              have hz9 : ¬ 9223372036854775807 < 1 + (1 + (txt (outL k n j)).size) := by omega
              have hsd1 : (txt [d]).size = 1 := rfl
              clear hdig hlt2 HPL HPD HPZ HLOW HPT HP0 HCM HNC HAT HZERO HLEN hol
              generalize txt (outL k n j) = OJ at *
              generalize txt [d] = TD at *
              go_wp2_with fail
              exact ⟨⟨j + 1, (q : Int) - 1, rfl, by rw [← HNX.out], rfl, by have := HIV.out; show _ = _; omega, hlt, trivial⟩, by simp [intOf]; omega⟩
          · subst hjp
            have g3 : ¬ (j : Int) > (j : Int) := by omega
            have g6 : (0 : Int) < (d' : Int) := by omega
            by_cases hp0 : 0 < j
            · have g1 : (j : Int) > 0 := by omega
              cases t with
              | true =>
                have HNX : Hid (txt [d] ++ (⟨#[46]⟩ ++ txt (outL k n j)) = txt (outL k n (j + 1))) := HPT.out j d hlt hdig rfl hp0
                have hz8 : ¬ 9223372036854775807 < 1 + (txt (outL k n j)).size := by omega
                have hz9 : ¬ 9223372036854775807 < 1 + (1 + (txt (outL k n j)).size) := by omega
                have hsd1 : (txt [d]).size = 1 := rfl
                clear hdig hlt2 HPL HPD HPZ HLOW HPT HP0 HCM HNC HAT HZERO HLEN hol
                generalize txt (outL k n j) = OJ at *
                generalize txt [d] = TD at *
                go_wp2_with fail
                exact ⟨⟨j + 1, (q : Int) - 1, rfl, by rw [← HNX.out], rfl, by have := HIV.out; show _ = _; omega, hlt, trivial⟩, by simp [intOf]; omega⟩
              | false =>
                have HNX : Hid (txt [d] ++ (⟨#[46]⟩ ++ txt (outL k n j)) = txt (outL k n (j + 1))) := HPT.out j d hlt hdig rfl hp0
                have hz8 : ¬ 9223372036854775807 < 1 + (txt (outL k n j)).size := by omega
                have hz9 : ¬ 9223372036854775807 < 1 + (1 + (txt (outL k n j)).size) := by omega
                have hsd1 : (txt [d]).size = 1 := rfl
                clear hdig hlt2 HPL HPD HPZ HLOW HPT HP0 HCM HNC HAT HZERO HLEN hol
                generalize txt (outL k n j) = OJ at *
                generalize txt [d] = TD at *
                go_wp2_with fail
                exact ⟨⟨j + 1, (q : Int) - 1, rfl, by rw [← HNX.out], rfl, by have := HIV.out; show _ = _; omega, hlt, trivial⟩, by simp [intOf]; omega⟩
            · have g1 : ¬ (j : Int) > 0 := by omega
              cases t with
              | true =>
                have HNX : Hid (txt [d] ++ txt (outL k n j) = txt (outL k n (j + 1))) := HP0.out j d hlt hdig rfl hp0
                have hz8 : ¬ 9223372036854775807 < 1 + (txt (outL k n j)).size := by omega
                have hz9 : ¬ 9223372036854775807 < 1 + (1 + (txt (outL k n j)).size) := by omega
                have hsd1 : (txt [d]).size = 1 := rfl
                clear hdig hlt2 HPL HPD HPZ HLOW HPT HP0 HCM HNC HAT HZERO HLEN hol
                generalize txt (outL k n j) = OJ at *
                generalize txt [d] = TD at *
                go_wp2_with fail
                exact ⟨⟨j + 1, (q : Int) - 1, rfl, by rw [← HNX.out], rfl, by have := HIV.out; show _ = _; omega, hlt, trivial⟩, by simp [intOf]; omega⟩
              | false =>
                have HNX : Hid (txt [d] ++ txt (outL k n j) = txt (outL k n (j + 1))) := HP0.out j d hlt hdig rfl hp0
                have hz8 : ¬ 9223372036854775807 < 1 + (txt (outL k n j)).size := by omega
                have hz9 : ¬ 9223372036854775807 < 1 + (1 + (txt (outL k n j)).size) := by omega
                have hsd1 : (txt [d]).size = 1 := rfl
                clear hdig hlt2 HPL HPD HPZ HLOW HPT HP0 HCM HNC HAT HZERO HLEN hol
                generalize txt (outL k n j) = OJ at *
                generalize txt [d] = TD at *
                go_wp2_with fail
                exact ⟨⟨j + 1, (q : Int) - 1, rfl, by rw [← HNX.out], rfl, by have := HIV.out; show _ = _; omega, hlt, trivial⟩, by simp [intOf]; omega⟩
          · have g2 : ((j : Int) == (p : Int)) = false := by simp; omega
            have g3 : (j : Int) > (p : Int) := by omega
            have er : ((j : Int) - (p : Int)).tmod 3 = (((j - p) % 3 : Nat) : Int) := by rw [Int.tmod_eq_emod_of_nonneg (by omega)]; omega
            by_cases hp0 : 0 < p
            · have g1 : (p : Int) > 0 := by omega
              cases t with
              | false =>
                have HNX : Hid (txt [d] ++ txt (outL k n j) = txt (outL k n (j + 1))) := HNC.out j d hlt hdig hjp (fun x => by cases x.1)
                have hz8 : ¬ 9223372036854775807 < 1 + (txt (outL k n j)).size := by omega
                have hz9 : ¬ 9223372036854775807 < 1 + (1 + (txt (outL k n j)).size) := by omega
                have hsd1 : (txt [d]).size = 1 := rfl
                clear hdig hlt2 HPL HPD HPZ HLOW HPT HP0 HCM HNC HAT HZERO HLEN hol
                generalize txt (outL k n j) = OJ at *
                generalize txt [d] = TD at *
                go_wp2_with fail
                exact ⟨⟨j + 1, (q : Int) - 1, rfl, by rw [← HNX.out], rfl, by have := HIV.out; show _ = _; omega, hlt, trivial⟩, by simp [intOf]; omega⟩
              | true =>
                by_cases hm : (j - p) % 3 = 0
                · have g4 : ((((j : Int) - (p : Int)).tmod 3) == 0) = true := by rw [er, hm]; rfl
                  have HNX : Hid (txt [d] ++ (⟨#[44]⟩ ++ txt (outL k n j)) = txt (outL k n (j + 1))) := HCM.out j d hlt hdig hjp rfl hm
                  have hz8 : ¬ 9223372036854775807 < 1 + (txt (outL k n j)).size := by omega
                  have hz9 : ¬ 9223372036854775807 < 1 + (1 + (txt (outL k n j)).size) := by omega
                  have hsd1 : (txt [d]).size = 1 := rfl
                  clear hdig hlt2 HPL HPD HPZ HLOW HPT HP0 HCM HNC HAT HZERO HLEN hol
                  generalize txt (outL k n j) = OJ at *
                  generalize txt [d] = TD at *
                  go_wp2_with fail
                  exact ⟨⟨j + 1, (q : Int) - 1, rfl, by rw [← HNX.out], rfl, by have := HIV.out; show _ = _; omega, hlt, trivial⟩, by simp [intOf]; omega⟩
                · have g4 : ((((j : Int) - (p : Int)).tmod 3) == 0) = false := by rw [er]; simp; omega
                  have HNX : Hid (txt [d] ++ txt (outL k n j) = txt (outL k n (j + 1))) := HNC.out j d hlt hdig hjp (fun x => hm x.2)
                  have hz8 : ¬ 9223372036854775807 < 1 + (txt (outL k n j)).size := by omega
                  have hz9 : ¬ 9223372036854775807 < 1 + (1 + (txt (outL k n j)).size) := by omega
                  have hsd1 : (txt [d]).size = 1 := rfl
                  clear hdig hlt2 HPL HPD HPZ HLOW HPT HP0 HCM HNC HAT HZERO HLEN hol
                  generalize txt (outL k n j) = OJ at *
                  generalize txt [d] = TD at *
                  go_wp2_with fail
                  exact ⟨⟨j + 1, (q : Int) - 1, rfl, by rw [← HNX.out], rfl, by have := HIV.out; show _ = _; omega, hlt, trivial⟩, by simp [intOf]; omega⟩
            · have g1 : ¬ (p : Int) > 0 := by omega
              cases t with
              | false =>
                have HNX : Hid (txt [d] ++ txt (outL k n j) = txt (outL k n (j + 1))) := HNC.out j d hlt hdig hjp (fun x => by cases x.1)
                have hz8 : ¬ 9223372036854775807 < 1 + (txt (outL k n j)).size := by omega
                have hz9 : ¬ 9223372036854775807 < 1 + (1 + (txt (outL k n j)).size) := by omega
                have hsd1 : (txt [d]).size = 1 := rfl
                clear hdig hlt2 HPL HPD HPZ HLOW HPT HP0 HCM HNC HAT HZERO HLEN hol
                generalize txt (outL k n j) = OJ at *
                generalize txt [d] = TD at *
                go_wp2_with fail
                exact ⟨⟨j + 1, (q : Int) - 1, rfl, by rw [← HNX.out], rfl, by have := HIV.out; show _ = _; omega, hlt, trivial⟩, by simp [intOf]; omega⟩
              | true =>
                by_cases hm : (j - p) % 3 = 0
                · have g4 : ((((j : Int) - (p : Int)).tmod 3) == 0) = true := by rw [er, hm]; rfl
                  have HNX : Hid (txt [d] ++ (⟨#[44]⟩ ++ txt (outL k n j)) = txt (outL k n (j + 1))) := HCM.out j d hlt hdig hjp rfl hm
                  have hz8 : ¬ 9223372036854775807 < 1 + (txt (outL k n j)).size := by omega
                  have hz9 : ¬ 9223372036854775807 < 1 + (1 + (txt (outL k n j)).size) := by omega
                  have hsd1 : (txt [d]).size = 1 := rfl
                  clear hdig hlt2 HPL HPD HPZ HLOW HPT HP0 HCM HNC HAT HZERO HLEN hol
                  generalize txt (outL k n j) = OJ at *
                  generalize txt [d] = TD at *
                  go_wp2_with fail
                  exact ⟨⟨j + 1, (q : Int) - 1, rfl, by rw [← HNX.out], rfl, by have := HIV.out; show _ = _; omega, hlt, trivial⟩, by simp [intOf]; omega⟩
                · have g4 : ((((j : Int) - (p : Int)).tmod 3) == 0) = false := by rw [er]; simp; omega
                  have HNX : Hid (txt [d] ++ txt (outL k n j) = txt (outL k n (j + 1))) := HNC.out j d hlt hdig hjp (fun x => hm x.2)
                  have hz8 : ¬ 9223372036854775807 < 1 + (txt (outL k n j)).size := by omega
                  have hz9 : ¬ 9223372036854775807 < 1 + (1 + (txt (outL k n j)).size) := by omega
                  have hsd1 : (txt [d]).size = 1 := rfl
                  clear hdig hlt2 HPL HPD HPZ HLOW HPT HP0 HCM HNC HAT HZERO HLEN hol
                  generalize txt (outL k n j) = OJ at *
                  generalize txt [d] = TD at *
                  go_wp2_with fail
                  exact ⟨⟨j + 1, (q : Int) - 1, rfl, by rw [← HNX.out], rfl, by have := HIV.out; show _ = _; omega, hlt, trivial⟩, by simp [intOf]; omega⟩
        · have hdig : (padL k n)[N - 1 - j]? = some 48 := HPZ.out j (by omega) hlt
          have hiv : ¬ iv ≥ 0 := by have := HIV.out; omega
          have hk : (j : Int) < (p : Int) + (d' : Int) := by omega
          have hiv2 : -1000 ≤ iv := by have := HIV.out; omega
          rcases Nat.lt_trichotomy j p with hjp | hjp | hjp
          · have g1 : (p : Int) > 0 := by omega
            have g2 : ((j : Int) == (p : Int)) = false := by simp; omega
            have g3 : ¬ (j : Int) > (p : Int) := by omega
            cases t with
            | true =>
              have HNX : Hid (⟨#[48]⟩ ++ txt (outL k n j) = txt (outL k n (j + 1))) := HLOW.out j 48 hlt hdig hjp
              have hz8 : ¬ 9223372036854775807 < 1 + (txt (outL k n j)).size := by omega
              have hz9 : ¬ 9223372036854775807 < 1 + (1 + (txt (outL k n j)).size) := by omega
              clear hdig hlt2 HPL HPD HPZ HLOW HPT HP0 HCM HNC HAT HZERO HLEN hol
              generalize txt (outL k n j) = OJ at *
              go_wp2_with fail
              exact ⟨⟨j + 1, iv - 1, rfl, by rw [← HNX.out], rfl, by have := HIV.out; show _ = _; omega, hlt, trivial⟩, by simp [intOf]; omega⟩
            | false =>
              have HNX : Hid (⟨#[48]⟩ ++ txt (outL k n j) = txt (outL k n (j + 1))) := HLOW.out j 48 hlt hdig hjp
              have hz8 : ¬ 9223372036854775807 < 1 + (txt (outL k n j)).size := by omega
              have hz9 : ¬ 9223372036854775807 < 1 + (1 + (txt (outL k n j)).size) := by omega
              clear hdig hlt2 HPL HPD HPZ HLOW HPT HP0 HCM HNC HAT HZERO HLEN hol
              generalize txt (outL k n j) = OJ at *
              go_wp2_with fail
              exact ⟨⟨j + 1, iv - 1, rfl, by rw [← HNX.out], rfl, by have := HIV.out; show _ = _; omega, hlt, trivial⟩, by simp [intOf]; omega⟩
          · subst hjp
            have g3 : ¬ (j : Int) > (j : Int) := by omega
            have g6 : (0 : Int) < (d' : Int) := by omega
            by_cases hp0 : 0 < j
            · have g1 : (j : Int) > 0 := by omega
              cases t with
              | true =>
                have HNX : Hid (⟨#[48]⟩ ++ (⟨#[46]⟩ ++ txt (outL k n j)) = txt (outL k n (j + 1))) := HPT.out j 48 hlt hdig rfl hp0
                have hz8 : ¬ 9223372036854775807 < 1 + (txt (outL k n j)).size := by omega
                have hz9 : ¬ 9223372036854775807 < 1 + (1 + (txt (outL k n j)).size) := by omega
                clear hdig hlt2 HPL HPD HPZ HLOW HPT HP0 HCM HNC HAT HZERO HLEN hol
                generalize txt (outL k n j) = OJ at *
                go_wp2_with fail
                exact ⟨⟨j + 1, iv - 1, rfl, by rw [← HNX.out], rfl, by have := HIV.out; show _ = _; omega, hlt, trivial⟩, by simp [intOf]; omega⟩
              | false =>
                have HNX : Hid (⟨#[48]⟩ ++ (⟨#[46]⟩ ++ txt (outL k n j)) = txt (outL k n (j + 1))) := HPT.out j 48 hlt hdig rfl hp0
                have hz8 : ¬ 9223372036854775807 < 1 + (txt (outL k n j)).size := by omega
                have hz9 : ¬ 9223372036854775807 < 1 + (1 + (txt (outL k n j)).size) := by omega
                clear hdig hlt2 HPL HPD HPZ HLOW HPT HP0 HCM HNC HAT HZERO HLEN hol
                generalize txt (outL k n j) = OJ at *
                go_wp2_with fail
                exact ⟨⟨j + 1, iv - 1, rfl, by rw [← HNX.out], rfl, by have := HIV.out; show _ = _; omega, hlt, trivial⟩, by simp [intOf]; omega⟩
            · omega
          · have g2 : ((j : Int) == (p : Int)) = false := by simp; omega
            have g3 : (j : Int) > (p : Int) := by omega
            have er : ((j : Int) - (p : Int)).tmod 3 = (((j - p) % 3 : Nat) : Int) := by rw [Int.tmod_eq_emod_of_nonneg (by omega)]; omega
            by_cases hp0 : 0 < p
            · have g1 : (p : Int) > 0 := by omega
              cases t with
              | false =>
                have HNX : Hid (⟨#[48]⟩ ++ txt (outL k n j) = txt (outL k n (j + 1))) := HNC.out j 48 hlt hdig hjp (fun x => by cases x.1)
                have hz8 : ¬ 9223372036854775807 < 1 + (txt (outL k n j)).size := by omega
                have hz9 : ¬ 9223372036854775807 < 1 + (1 + (txt (outL k n j)).size) := by omega
                clear hdig hlt2 HPL HPD HPZ HLOW HPT HP0 HCM HNC HAT HZERO HLEN hol
                generalize txt (outL k n j) = OJ at *
                go_wp2_with fail
                exact ⟨⟨j + 1, iv - 1, rfl, by rw [← HNX.out], rfl, by have := HIV.out; show _ = _; omega, hlt, trivial⟩, by simp [intOf]; omega⟩
              | true =>
                by_cases hm : (j - p) % 3 = 0
                · have g4 : ((((j : Int) - (p : Int)).tmod 3) == 0) = true := by rw [er, hm]; rfl
                  have HNX : Hid (⟨#[48]⟩ ++ (⟨#[44]⟩ ++ txt (outL k n j)) = txt (outL k n (j + 1))) := HCM.out j 48 hlt hdig hjp rfl hm
                  have hz8 : ¬ 9223372036854775807 < 1 + (txt (outL k n j)).size := by omega
                  have hz9 : ¬ 9223372036854775807 < 1 + (1 + (txt (outL k n j)).size) := by omega
                  clear hdig hlt2 HPL HPD HPZ HLOW HPT HP0 HCM HNC HAT HZERO HLEN hol
                  generalize txt (outL k n j) = OJ at *
                  go_wp2_with fail
                  exact ⟨⟨j + 1, iv - 1, rfl, by rw [← HNX.out], rfl, by have := HIV.out; show _ = _; omega, hlt, trivial⟩, by simp [intOf]; omega⟩
                · have g4 : ((((j : Int) - (p : Int)).tmod 3) == 0) = false := by rw [er]; simp; omega
                  have HNX : Hid (⟨#[48]⟩ ++ txt (outL k n j) = txt (outL k n (j + 1))) := HNC.out j 48 hlt hdig hjp (fun x => hm x.2)
                  have hz8 : ¬ 9223372036854775807 < 1 + (txt (outL k n j)).size := by omega
                  have hz9 : ¬ 9223372036854775807 < 1 + (1 + (txt (outL k n j)).size) := by omega
                  clear hdig hlt2 HPL HPD HPZ HLOW HPT HP0 HCM HNC HAT HZERO HLEN hol
                  generalize txt (outL k n j) = OJ at *
                  go_wp2_with fail
                  exact ⟨⟨j + 1, iv - 1, rfl, by rw [← HNX.out], rfl, by have := HIV.out; show _ = _; omega, hlt, trivial⟩, by simp [intOf]; omega⟩
            · have g1 : ¬ (p : Int) > 0 := by omega
              cases t with
              | false =>
                have HNX : Hid (⟨#[48]⟩ ++ txt (outL k n j) = txt (outL k n (j + 1))) := HNC.out j 48 hlt hdig hjp (fun x => by cases x.1)
                have hz8 : ¬ 9223372036854775807 < 1 + (txt (outL k n j)).size := by omega
                have hz9 : ¬ 9223372036854775807 < 1 + (1 + (txt (outL k n j)).size) := by omega
                clear hdig hlt2 HPL HPD HPZ HLOW HPT HP0 HCM HNC HAT HZERO HLEN hol
                generalize txt (outL k n j) = OJ at *
                go_wp2_with fail
                exact ⟨⟨j + 1, iv - 1, rfl, by rw [← HNX.out], rfl, by have := HIV.out; show _ = _; omega, hlt, trivial⟩, by simp [intOf]; omega⟩
              | true =>
                by_cases hm : (j - p) % 3 = 0
                · have g4 : ((((j : Int) - (p : Int)).tmod 3) == 0) = true := by rw [er, hm]; rfl
                  have HNX : Hid (⟨#[48]⟩ ++ (⟨#[44]⟩ ++ txt (outL k n j)) = txt (outL k n (j + 1))) := HCM.out j 48 hlt hdig hjp rfl hm
                  have hz8 : ¬ 9223372036854775807 < 1 + (txt (outL k n j)).size := by omega
                  have hz9 : ¬ 9223372036854775807 < 1 + (1 + (txt (outL k n j)).size) := by omega
                  clear hdig hlt2 HPL HPD HPZ HLOW HPT HP0 HCM HNC HAT HZERO HLEN hol
                  generalize txt (outL k n j) = OJ at *
                  go_wp2_with fail
                  exact ⟨⟨j + 1, iv - 1, rfl, by rw [← HNX.out], rfl, by have := HIV.out; show _ = _; omega, hlt, trivial⟩, by simp [intOf]; omega⟩
                · have g4 : ((((j : Int) - (p : Int)).tmod 3) == 0) = false := by rw [er]; simp; omega
                  have HNX : Hid (⟨#[48]⟩ ++ txt (outL k n j) = txt (outL k n (j + 1))) := HNC.out j 48 hlt hdig hjp (fun x => hm x.2)
                  have hz8 : ¬ 9223372036854775807 < 1 + (txt (outL k n j)).size := by omega
                  have hz9 : ¬ 9223372036854775807 < 1 + (1 + (txt (outL k n j)).size) := by omega
                  clear hdig hlt2 HPL HPD HPZ HLOW HPT HP0 HCM HNC HAT HZERO HLEN hol
                  generalize txt (outL k n j) = OJ at *
                  go_wp2_with fail
                  exact ⟨⟨j + 1, iv - 1, rfl, by rw [← HNX.out], rfl, by have := HIV.out; show _ = _; omega, hlt, trivial⟩, by simp [intOf]; omega⟩
      · have hlt2 : ¬ (j < L ∨ j < p + d') := fun h => hlt ((HPL.out j).2 h)
        have hjN2 : j = N := by omega
        subst hjN2
        have hiv : ¬ iv ≥ 0 := by have := HIV.out; omega
        have hk : ¬ (j : Int) < (p : Int) + (d' : Int) := by omega
        clear hlt2 HPL HPD HPZ HLOW HPT HP0 HCM HNC HAT HZERO HLEN
        go_wp2_with fail
        go_meet
        case rel => exact ⟨rfl, rfl⟩
  case rest =>
  obtain ⟨rfl, rfl⟩ := hcut
  apply_assumption
  have hos : (txt (outL k n N)).size ≤ 1000 := HLEN.out N
  clear HPL HPD HPZ HLOW HPT HP0 HCM HNC HAT HZERO HLEN
  generalize txt (outL k n N) = OT at *
  have hz1 : ¬ 9223372036854775807 < A.size + OT.size := by omega
  have hz2 : ¬ 9223372036854775807 < A.size + OT.size + BH.size := by omega
  have hz3 : ¬ 9223372036854775807 < 1 + (A.size + OT.size + BH.size) := by omega
  have hfin := HFIN.out
  clear HFIN
  by_cases hn : n < 0
  · rw [if_pos hn] at hfin
    have hn' : decide (n < 0) = true := by simp [hn]
    rw [hn']
    clear HM
    go_wp2_with fail
    go_ret
    exact ⟨by first | rfl | (rw [hfin]; rfl), HB5.out⟩
  · rw [if_neg hn] at hfin
    have hn' : decide (n < 0) = false := by simp; omega
    rw [hn']
    clear HM
    go_wp2_with fail
    go_ret
    exact ⟨by first | rfl | (rw [hfin]; rfl), HB5.out⟩
end Go.Proofs.YtnelglmbckgbgaaGreatDoor.fw
