/- Read, as the reference has it, reads any text as the program does. Conditions: the text has at most 2^47 bytes. -/
import Derived.Test.YtoaejcppfmjhdaaGreatDoorWholeF
import Derived.Test.YtoaejcppfmjhdaaGreatDoorRead
import Derived.Deep.DeepCutAuto
import Derived.Lib.IndexBytes
namespace Go.Proofs.YtoaejcppfmjhdaaGreatDoor
section
open Go.Lib
/-- What stands behind a sign. -/
def behind (l : List UInt8) : List UInt8 := if l.head? = some 45 then l.tail else l
/-- The whole number that a text is by the reference. -/
def wholeL (l : List UInt8) : Option Int :=
  if behind l = [] ∨ ((behind l).head? = some 48 ∧ l ≠ [48]) then none
  else if (behind l).all dig = false then none
  else if fitI (decide (l.head? = some 45)) (dv (behind l)) = true then some (if l.head? = some 45 then -(dv (behind l) : Int) else (dv (behind l) : Int)) else none
theorem whole_itoa (v : Int) (h0 : -9223372036854775808 ≤ v) (h1 : v ≤ 9223372036854775807) : wholeL (itoa v) = some v := by
  by_cases c : v < 0
  · obtain ⟨u, rfl⟩ : ∃ u : Nat, v = -(u : Int) := ⟨v.natAbs, by omega⟩
    rw [itoa_neg u (by omega)]
    obtain ⟨d1, d2, d3, d4⟩ := dv_dec u
    have hb : behind (45 :: decDigits u) = decDigits u := by simp [behind]
    unfold wholeL
    rw [hb, if_neg, if_neg, if_pos]
    · simp [d1]
    · rw [fit_iff, d1]
      simp
      omega
    · rw [d2]; simp
    · rintro (e | ⟨e, _⟩)
      · exact d3 e
      · have := d4 e
        rw [this] at d1
        have : u = 0 := by rw [← d1]; rfl
        omega
  · obtain ⟨u, rfl⟩ : ∃ u : Nat, v = (u : Int) := ⟨v.toNat, by omega⟩
    rw [itoa_nonneg u]
    obtain ⟨d1, d2, d3, d4⟩ := dv_dec u
    obtain ⟨q, r, e, q1, q2⟩ := dec_head u
    have hh : (decDigits u).head? ≠ some 45 := by
      rw [e, List.head?_cons]
      intro k
      injection k with k
      rw [k] at q1
      exact absurd q1 (by decide)
    have hb : behind (decDigits u) = decDigits u := by unfold behind; rw [if_neg hh]
    unfold wholeL
    rw [hb, if_neg, if_neg, if_pos]
    · rw [if_neg hh, d1]
    · rw [fit_iff, d1]
      left
      omega
    · rw [d2]; simp
    · rintro (e | ⟨e, e2⟩)
      · exact d3 e
      · exact e2 (d4 e)
theorem whole_some {l : List UInt8} {v : Int} (h : wholeL l = some v) : itoa v = l ∧ -9223372036854775808 ≤ v ∧ v ≤ 9223372036854775807 := by
  unfold wholeL at h
  by_cases b1 : behind l = [] ∨ ((behind l).head? = some 48 ∧ l ≠ [48])
  · rw [if_pos b1] at h; cases h
  rw [if_neg b1] at h
  by_cases b2 : (behind l).all dig = false
  · rw [if_pos b2] at h; cases h
  rw [if_neg b2] at h
  rw [Bool.not_eq_false] at b2
  by_cases b3 : fitI (decide (l.head? = some 45)) (dv (behind l)) = true
  · rw [if_pos b3] at h
    injection h with h
    rw [fit_iff] at b3
    have hne : behind l ≠ [] := fun e => b1 (Or.inl e)
    by_cases hm : l.head? = some 45
    · rw [if_pos hm] at h
      have hl : l = 45 :: behind l := by
        unfold behind
        rw [if_pos hm]
        cases l with
        | nil => cases hm
        | cons a r =>
          rw [List.head?_cons] at hm
          injection hm with hm
          rw [hm]; rfl
      have hcn : canon (behind l) := ⟨b2, hne, fun e => by
        exfalso
        apply b1
        refine Or.inr ⟨e, ?_⟩
        intro q
        rw [q] at hm
        cases hm⟩
      have hn48 : behind l ≠ [48] := by
        intro e
        apply b1
        refine Or.inr ⟨by rw [e]; rfl, ?_⟩
        intro q
        rw [q] at hm
        cases hm
      have hp := dv_pos _ hcn hn48
      subst h
      rw [itoa_neg _ (by omega), dec_dv _ hcn, ← hl]
      refine ⟨rfl, ?_, ?_⟩ <;> omega
    · rw [if_neg hm] at h
      have hbl : behind l = l := by unfold behind; rw [if_neg hm]
      rw [hbl] at h b1 b2 b3 hne
      have hcn : canon l := ⟨b2, hne, fun e => by
        apply Classical.byContradiction
        intro q
        exact b1 (Or.inr ⟨e, q⟩)⟩
      subst h
      rw [itoa_nonneg, dec_dv _ hcn]
      refine ⟨rfl, ?_, ?_⟩
      · omega
      · rcases b3 with q | ⟨q, _⟩
        · omega
        · simp at q; exact absurd q hm
  · rw [if_neg b3] at h; cases h
/-- BOTH SAY THE SAME. -/
theorem whole_num (s : ByteArray) : wholeL s.data.toList = numOf s := by
  cases h : wholeL s.data.toList with
  | some v =>
    obtain ⟨h1, h2, h3⟩ := whole_some h
    have h4 := atoi_itoa v h2 h3
    rw [h1] at h4
    unfold numOf
    rw [h4]
    simp [h1]
  | none =>
    cases h2 : numOf s with
    | none => rfl
    | some v =>
      obtain ⟨h3, h4⟩ := numOf_some h2
      obtain ⟨b1, b2⟩ := atoi_bd h3
      have := whole_itoa v b1 b2
      rw [h4, h] at this
      cases this
end
section
open Go.RowKit
set_option maxRecDepth 100000 in
set_option maxHeartbeats 4000000 in
theorem whole_go (s t : ByteArray) (neg : Bool) (w : World) (hs : s.size ≤ 140737488355328) (ht : t.size ≤ s.size)
    (hneg : neg = true → s.toList.isEmpty = false ∧ t = s.extract 1 s.size ∧ t.size + 1 = s.size ∧ ∃ hp : 0 < s.size, ((((s[0]'hp).toNat : Nat) : Int) == 45) = true)
    (hpos : neg = false → t = s ∧ (s.toList.isEmpty = true ∨ (s.toList.isEmpty = false ∧ ∃ hp : 0 < s.size, ((((s[0]'hp).toNat : Nat) : Int) == 45) = false)))
    (hok : t.toList.isEmpty = false) (hp : 0 < t.size) (h48 : (((t[0]'hp).toNat : Int) == 48) = false ∨ ((((t[0]'hp).toNat : Int) == 48) = true ∧ (s.toList == [48]) = true)) (hx0 : neg = true → t.data.toList.all dig = true → dv t.data.toList ≠ 0) :
    Calls Tryz.prog 63 #[.string s, .bool true] w fun e w' => e = .returned (.tuple #[.int .i64 (wRes neg t.data.toList), .bool (wOk neg t.data.toList)]) ∧ Below w.heap.size w w' := by
  have HX0 : Hid (neg = true → t.data.toList.all dig = true → dv t.data.toList ≠ 0) := hx0
  have HOK : Hid (t.toList.isEmpty = false) := hok
  have H48 : Hid ((((t[0]'hp).toNat : Int) == 48) = false ∨ ((((t[0]'hp).toNat : Int) == 48) = true ∧ (s.toList == [48]) = true)) := h48
  clear hx0 hok h48
  go_enter Tryz.func63, Tryz.ntmps63
  go_upto_region 2 with fail
  go_cut [20] (fun s20 wx => s20 = .bool neg ∧ w = wx)
  case first =>
    cases neg
    · obtain ⟨_, h | ⟨h, hq, h2⟩⟩ := hpos rfl
      · clear hneg hpos
        go_wp2_with fail
        go_meet
        case rel => exact ⟨rfl, rfl⟩
      · clear hneg hpos
        go_wp2_with fail
        go_meet
        case rel => exact ⟨rfl, rfl⟩
    · obtain ⟨h, _, _, hq, h2⟩ := hneg rfl
      clear hneg hpos
      go_wp2_with fail
      go_meet
      case rel => exact ⟨rfl, rfl⟩
  case rest =>
  obtain ⟨rfl, rfl⟩ := hcut
  go_upto_if 20 with fail
  go_cut [6] (fun s6 wx => s6 = .string t ∧ w = wx)
  case first =>
    cases neg
    · obtain ⟨rfl, _⟩ := hpos rfl
      clear hneg hpos
      go_wp2_with fail
      go_meet
      case rel => exact ⟨rfl, rfl⟩
    · obtain ⟨h, h3, h4, hq, h2⟩ := hneg rfl
      have H3 : Hid (t = s.extract 1 s.size) := h3
      clear hneg hpos h3
      go_wp2_with fail
      go_meet
      case rel => exact ⟨by rw [H3.out], rfl⟩
  case rest =>
  obtain ⟨rfl, rfl⟩ := hcut
  have HL : Hid (neg = false → t.size = s.size) := fun h => by rw [(hpos h).1]
  have HL2 : Hid (neg = true → t.size + 1 = s.size) := fun h => (hneg h).2.2.1
  clear hpos hneg
  go_upto_region 4 with fail
  go_cut [33] (fun s33 wx => s33 = .bool false ∧ w = wx)
  case first =>
    have hok := HOK.out
    rcases H48.out with h48 | ⟨h48, h48b⟩
    · go_wp2_with fail
      go_meet
      case rel => exact ⟨by simp, rfl⟩
    · go_wp2_with fail
      go_meet
      case rel => exact ⟨by simp, rfl⟩
  case rest =>
  obtain ⟨rfl, rfl⟩ := hcut
  clear HOK H48
  have hn0 := BigInt.new w 96
  go_upto_region 6 with fail
  go_cut [7] (fun s7 wx => ∃ bn, s7 = ptr bn ∧ w.heap.size ≤ bn ∧ BigInt wx bn false 0 ∧ Below w.heap.size w wx)
  case first =>
    go_wp2_with fail
    go_meet
    case rel => exact ⟨_, rfl, Nat.le_refl _, hn0, (Below.refl _ _).alloc (Nat.le_refl _) _⟩
  case rest =>
  clear hn0
  obtain ⟨bn, rfl, hbn, hZ, hB⟩ := hcut
  go_wp2_with fail
  go_loopw [8] (fun i wr => ∃ k : Nat, k ≤ t.size ∧ i = .int .i64 k ∧ (t.data.toList.take k).all dig = true ∧ BigInt wr bn false (dv (t.data.toList.take k)) ∧ Below w.heap.size w wr) (fun i _ => t.size - (intOf i).toNat)
  case atStart => exact ⟨0, Nat.zero_le _, rfl, by simp, by simpa [dv] using hZ, hB⟩
  case round =>
    clear hZ hB
    obtain ⟨k, hk, rfl, hall, hZ, hB⟩ := hrel
    by_cases hlt : k < t.size
    · have HT := take_snoc t k hlt
      have HTk : Hid (t.data.toList.take (k + 1) = t.data.toList.take k ++ [t[k]]) := HT
      have HAll : Hid ((t.data.toList.take k).all dig = true) := hall
      have hx := dv_lt _ hall
      have hlen : (t.data.toList.take k).length ≤ k := List.length_take_le _ _
      have hxk : dv (t.data.toList.take k) < 10 ^ k := Nat.lt_of_lt_of_le hx (Nat.pow_le_pow_right (by decide) hlen)
      have HS1 : Hid (Small (dv (t.data.toList.take k))) := small_of hxk (by omega)
      have HS2 : Hid (Small (dv (t.data.toList.take k) * 10)) := small_of (i := k + 1) (by rw [Nat.pow_succ]; omega) (by omega)
      have hbl := byte_lt t[k]
      clear HT hall hx hlen hxk
      by_cases d1 : ((t[k].toNat : Nat) : Int) < 48
      · have HNo : Hid (wRes neg t.data.toList = 0 ∧ wOk neg t.data.toList = false) := w_no hlt (by unfold dig; rw [decide_eq_false (by omega)]; rfl)
        clear HTk HAll HS1 HS2
        go_wp2_with fail
        go_ret2
        exact ⟨by rw [HNo.out.1, HNo.out.2]; rfl, hB⟩
      · by_cases d2 : (57 : Int) < ((t[k].toNat : Nat) : Int)
        · have HNo : Hid (wRes neg t.data.toList = 0 ∧ wOk neg t.data.toList = false) := w_no hlt (by unfold dig; rw [decide_eq_false (by omega : ¬ t[k].toNat ≤ 57)]; simp)
          clear HTk HAll HS1 HS2
          go_wp2_with fail
          go_ret2
          exact ⟨by rw [HNo.out.1, HNo.out.2]; rfl, hB⟩
        · go_wp2_with fail
          refine (newInt_nn 10 _ (by omega)).mono ?_
          rintro e w1 ⟨⟨b1, rfl, hb1, hT1⟩, q1⟩
          have hZ1 := hZ.below q1
          go_wp2_with fail
          refine (mul10 bn _ _ hZ1 b1 hT1 HS1.out).mono ?_
          rintro e w2 ⟨rfl, hZ2, q2⟩
          go_wp2_with fail
          rw [show (((t[k].toNat : Nat) : Int) - 48) = ((t[k].toNat - 48 : Nat) : Int) from by omega]
          refine (newInt_nn (t[k].toNat - 48) _ (by omega)).mono ?_
          rintro e w3 ⟨⟨b3, rfl, hb3, hT3⟩, q3⟩
          have hZ3 := hZ2.below q3
          go_wp2_with fail
          refine (addM bn b3 _ _ _ hZ3 hT3 HS2.out (by omega)).mono ?_
          rintro e w4 ⟨rfl, hZ4, q4⟩
          have HD : Hid (dig t[k] = true) := by
            unfold Hid dig
            rw [decide_eq_true (by omega : 48 ≤ t[k].toNat), decide_eq_true (by omega : t[k].toNat ≤ 57)]
            rfl
          have hB4 : Below w.heap.size w w4 := ((bnext hB q1 hB.size).trans (q2 _ hbn)).trans ((q3.mono (by have := hB.size; have := q1.size; have := (q2 0 (Nat.zero_le _)).size; omega)).trans (q4 _ hbn))
          go_wp2_with fail
          exact ⟨⟨k + 1, by omega, by go_num, by rw [HTk.out, List.all_append, HAll.out]; simp [HD.out], by rw [HTk.out, dv_snoc]; exact hZ4, hB4⟩, by simp [intOf]; omega⟩
    · have hkn : k = t.size := by omega
      subst hkn
      have htk : t.data.toList.take t.size = t.data.toList := List.take_of_length_le (by simp)
      rw [htk] at hall hZ
      clear htk
      have HAll : Hid (t.data.toList.all dig = true) := hall
      clear hall
      generalize hxx : dv t.data.toList = x at *
      have HXX : Hid (dv t.data.toList = x) := hxx
      clear hxx
      cases neg
      · have hl := HL.out rfl
        have hne : ((t.size : Int) != (s.size : Int)) = false := by simp [hl]
        clear hl HL HL2 HX0
        go_wp2_with fail
        refine (fits_any bn x false _ hZ).mono ?_
        rintro e w5 ⟨rfl, rfl⟩
        cases hf : fitI false x
        · have HR : Hid (wRes false t.data.toList = 0 ∧ wOk false t.data.toList = false) := by
            unfold Hid wRes wOk wAns
            rw [HAll.out, HXX.out, hf]
            simp
          clear hf
          go_wp2_with fail
          go_ret2
          exact ⟨by rw [HR.out.1, HR.out.2]; rfl, hB⟩
        · have HR : Hid (wRes false t.data.toList = (x : Int) ∧ wOk false t.data.toList = true) := by
            unfold Hid wRes wOk wAns
            rw [HAll.out, HXX.out, hf]
            simp
          have hfx := fit_iff.1 hf
          clear hf
          go_wp2_with fail
          refine (int64_pos bn x _ hZ (by simp at hfx; omega)).mono ?_
          rintro e w6 ⟨rfl, rfl⟩
          go_wp2_with fail
          go_ret2
          exact ⟨by rw [HR.out.1, HR.out.2]; rfl, hB⟩
      · have hl := HL2.out rfl
        have hne : ((t.size : Int) != (s.size : Int)) = true := by rw [bne_iff_ne]; omega
        have hxz : x ≠ 0 := HX0.out rfl HAll.out
        have hsg : (!false && decide (x ≠ 0)) = true := by simp [hxz]
        clear hl HL HL2 HX0
        go_wp2_with fail
        refine (negM bn x false _ hZ).mono ?_
        rintro e w4 ⟨rfl, hZ4, q4⟩
        rw [hsg] at hZ4
        have hB4 : Below w.heap.size w w4 := hB.trans (q4 _ hbn)
        clear hsg
        go_wp2_with fail
        refine (fits_any bn x true _ hZ4).mono ?_
        rintro e w5 ⟨rfl, rfl⟩
        cases hf : fitI true x
        · have HR : Hid (wRes true t.data.toList = 0 ∧ wOk true t.data.toList = false) := by
            unfold Hid wRes wOk wAns
            rw [HAll.out, HXX.out, hf]
            simp
          clear hf
          go_wp2_with fail
          go_ret2
          exact ⟨by rw [HR.out.1, HR.out.2]; rfl, hB4⟩
        · have HR : Hid (wRes true t.data.toList = -(x : Int) ∧ wOk true t.data.toList = true) := by
            unfold Hid wRes wOk wAns
            rw [HAll.out, HXX.out, hf]
            simp
          have hfx := fit_iff.1 hf
          clear hf
          go_wp2_with fail
          refine (int64_neg bn x _ hZ4 (by omega)).mono ?_
          rintro e w6 ⟨rfl, rfl⟩
          go_wp2_with fail
          go_ret2
          exact ⟨by rw [HR.out.1, HR.out.2]; rfl, hB4⟩
set_option maxRecDepth 100000 in
set_option maxHeartbeats 4000000 in
theorem whole_bad (s t : ByteArray) (neg : Bool) (w : World) (hs : s.size ≤ 140737488355328) (ht : t.size ≤ s.size)
    (hneg : neg = true → s.toList.isEmpty = false ∧ t = s.extract 1 s.size ∧ t.size + 1 = s.size ∧ ∃ hp : 0 < s.size, ((((s[0]'hp).toNat : Nat) : Int) == 45) = true)
    (hpos : neg = false → t = s ∧ (s.toList.isEmpty = true ∨ (s.toList.isEmpty = false ∧ ∃ hp : 0 < s.size, ((((s[0]'hp).toNat : Nat) : Int) == 45) = false)))
    (hbad : t.toList.isEmpty = true ∨ (t.toList.isEmpty = false ∧ (∃ hp : 0 < t.size, (((t[0]'hp).toNat : Int) == 48) = true) ∧ (s.toList == [48]) = false)) :
    Calls Tryz.prog 63 #[.string s, .bool true] w fun e w' => e = .returned (.tuple #[.int .i64 0, .bool false]) ∧ Below w.heap.size w w' := by
  have HBad : Hid (t.toList.isEmpty = true ∨ (t.toList.isEmpty = false ∧ (∃ hp : 0 < t.size, (((t[0]'hp).toNat : Int) == 48) = true) ∧ (s.toList == [48]) = false)) := hbad
  clear hbad
  go_enter Tryz.func63, Tryz.ntmps63
  go_upto_region 2 with fail
  go_cut [20] (fun s20 wx => s20 = .bool neg ∧ w = wx)
  case first =>
    cases neg
    · obtain ⟨_, h | ⟨h, hq, h2⟩⟩ := hpos rfl
      · clear hneg hpos
        go_wp2_with fail
        go_meet
        case rel => exact ⟨rfl, rfl⟩
      · clear hneg hpos
        go_wp2_with fail
        go_meet
        case rel => exact ⟨rfl, rfl⟩
    · obtain ⟨h, _, _, hq, h2⟩ := hneg rfl
      clear hneg hpos
      go_wp2_with fail
      go_meet
      case rel => exact ⟨rfl, rfl⟩
  case rest =>
  obtain ⟨rfl, rfl⟩ := hcut
  go_upto_if 20 with fail
  go_cut [6] (fun s6 wx => s6 = .string t ∧ w = wx)
  case first =>
    cases neg
    · obtain ⟨rfl, _⟩ := hpos rfl
      clear hneg hpos
      go_wp2_with fail
      go_meet
      case rel => exact ⟨rfl, rfl⟩
    · obtain ⟨h, h3, h4, hq, h2⟩ := hneg rfl
      have H3 : Hid (t = s.extract 1 s.size) := h3
      clear hneg hpos h3
      go_wp2_with fail
      go_meet
      case rel => exact ⟨by rw [H3.out], rfl⟩
  case rest =>
  obtain ⟨rfl, rfl⟩ := hcut
  clear hpos hneg
  rcases HBad.out with h | ⟨h, ⟨hp, h48⟩, h3⟩
  · clear HBad
    go_wp2_with fail
    go_ret2
    exact ⟨rfl, Below.refl _ _⟩
  · clear HBad
    go_wp2_with fail
    go_ret2
    exact ⟨rfl, Below.refl _ _⟩
/-- WHOLE: what the reference reads of any text that is not empty. -/
theorem whole_any (s : ByteArray) (w : World) (hs : s.size ≤ 140737488355328) (hne : s.toList.isEmpty = false) :
    Calls Tryz.prog 63 #[.string s, .bool true] w fun e w' => e = .returned (.tuple #[.int .i64 ((wholeL s.data.toList).getD 0), .bool (wholeL s.data.toList).isSome]) ∧ Below w.heap.size w w' := by
  have hp := size_pos hne
  have hh := head_byte hp
  have h45 := byte_beq (c := s[0]'hp) (n := 45) (by decide)
  obtain ⟨neg, hn⟩ : ∃ neg, neg = decide (s[0]'hp = UInt8.ofNat 45) := ⟨_, rfl⟩
  obtain ⟨t, ht⟩ : ∃ t, t = (if neg = true then s.extract 1 s.size else s) := ⟨_, rfl⟩
  have hdec : decide (s.data.toList.head? = some 45) = neg := by
    rw [hn, hh]
    exact decide_eq_decide.2 ⟨fun e => by injection e, fun e => by rw [e]; rfl⟩
  have htl : t.data.toList = behind s.data.toList := by
    unfold behind
    cases neg
    · rw [ht, if_neg (by simp), if_neg (by simpa using hdec)]
    · rw [ht, if_pos rfl, if_pos (by simpa using hdec), Lib.extract_to_end]
      simp
  have hts : t.size ≤ s.size ∧ (neg = true → t.size + 1 = s.size) := by
    cases neg
    · rw [ht, if_neg (by simp)]; simp
    · rw [ht, if_pos rfl]; simp; omega
  have hneg : neg = true → s.toList.isEmpty = false ∧ t = s.extract 1 s.size ∧ t.size + 1 = s.size ∧ ∃ hp : 0 < s.size, ((((s[0]'hp).toNat : Nat) : Int) == 45) = true := by
    intro e
    refine ⟨hne, by rw [ht, if_pos e], hts.2 e, hp, ?_⟩
    rw [← e, hn]; exact h45
  have hpos : neg = false → t = s ∧ (s.toList.isEmpty = true ∨ (s.toList.isEmpty = false ∧ ∃ hp : 0 < s.size, ((((s[0]'hp).toNat : Nat) : Int) == 45) = false)) := by
    intro e
    refine ⟨by rw [ht, if_neg (by simp [e])], Or.inr ⟨hne, hp, ?_⟩⟩
    rw [← e, hn]; exact h45
  by_cases b1 : behind s.data.toList = [] ∨ ((behind s.data.toList).head? = some 48 ∧ s.data.toList ≠ [48])
  · have hw : wholeL s.data.toList = none := by unfold wholeL; rw [if_pos b1]
    rw [hw]
    refine whole_bad s t neg w hs hts.1 hneg hpos ?_
    rw [← htl] at b1
    cases hte : t.toList.isEmpty
    · right
      have htp := size_pos hte
      have hnil : t.data.toList ≠ [] := by
        intro q
        rw [ByteArray.toList_eq, q] at hte
        cases hte
      rcases b1 with b1 | ⟨b1, b2⟩
      · exact absurd b1 hnil
      · refine ⟨rfl, ⟨htp, ?_⟩, ?_⟩
        · rw [head_byte htp] at b1
          injection b1 with b1
          rw [b1]; rfl
        · rw [ByteArray.toList_eq]; exact beq_eq_false_iff_ne.2 b2
    · exact Or.inl rfl
  · have hnil : t.data.toList ≠ [] := by rw [htl]; exact fun q => b1 (Or.inl q)
    have hte : t.toList.isEmpty = false := by
      rw [ByteArray.toList_eq]
      cases h : t.data.toList with
      | nil => exact absurd h hnil
      | cons a r => rfl
    have htp := size_pos hte
    have h48 : (((t[0]'htp).toNat : Int) == 48) = false ∨ ((((t[0]'htp).toNat : Int) == 48) = true ∧ (s.toList == [48]) = true) := by
      have hb := byte_beq (c := t[0]'htp) (n := 48) (by decide)
      by_cases q : t[0]'htp = UInt8.ofNat 48
      · right
        refine ⟨by rw [show ((48 : Int)) = ((48 : Nat) : Int) from rfl, hb, decide_eq_true q], ?_⟩
        rw [ByteArray.toList_eq, beq_iff_eq]
        apply Classical.byContradiction
        intro r
        apply b1
        refine Or.inr ⟨?_, r⟩
        rw [← htl, head_byte htp, q]
        rfl
      · left
        rw [show ((48 : Int)) = ((48 : Nat) : Int) from rfl, hb, decide_eq_false q]
    have hx0 : neg = true → t.data.toList.all dig = true → dv t.data.toList ≠ 0 := by
      intro e hall
      have hcn : canon t.data.toList := ⟨hall, hnil, fun q => by
        exfalso
        apply b1
        rw [← htl]
        refine Or.inr ⟨q, ?_⟩
        intro r
        rw [e] at hdec
        rw [r] at hdec
        simp at hdec⟩
      have h48n : t.data.toList ≠ [48] := by
        intro q
        apply b1
        rw [← htl, q]
        refine Or.inr ⟨rfl, ?_⟩
        intro r
        rw [e] at hdec
        rw [r] at hdec
        simp at hdec
      have := dv_pos _ hcn h48n
      omega
    have key : (wRes neg t.data.toList = (wholeL s.data.toList).getD 0) ∧ (wOk neg t.data.toList = (wholeL s.data.toList).isSome) := by
      unfold wholeL
      rw [if_neg b1, ← htl, hdec]
      unfold wRes wOk wAns
      cases hall : t.data.toList.all dig
      · simp
      · cases hf : fitI neg (dv t.data.toList)
        · simp
        · cases neg
          · have : ¬ s.data.toList.head? = some 45 := by simpa using hdec
            simp [this]
          · have : s.data.toList.head? = some 45 := by simpa using hdec
            simp [this]
    rw [← key.1, ← key.2]
    exact whole_go s t neg w hs hts.1 hneg hpos hte htp h48 hx0
end
section
open Go.RowKit
theorem rnum_any (n : Int) (w : World) :
    Calls Tryz.prog 10 #[.int .i64 n] w fun e w' => e = .returned (V 1 n nul) ∧ Below w.heap.size w w' := by
  go_enter Tryz.func10, Tryz.ntmps10
  go_wp2
  exact bodyPost_ret (v := V 1 n nul) (by simp [results, Tryz.results10, go_sem]) rfl ⟨rfl, (Below.refl _ _).alloc (Nat.le_refl _) _⟩
theorem rtxt_any (s : ByteArray) (w : World) :
    Calls Tryz.prog 21 #[.string s] w fun e w' => e = .returned (V 2 0 s) ∧ Below w.heap.size w w' := by
  go_enter Tryz.func21, Tryz.ntmps21
  go_wp2
  exact bodyPost_ret (v := V 2 0 s) (by simp [results, Tryz.results21, go_sem]) rfl ⟨rfl, (Below.refl _ _).alloc (Nat.le_refl _) _⟩
theorem rtru_any (t : Bool) (w : World) :
    Calls Tryz.prog 22 #[.bool t] w fun e w' => e = .returned (V 3 (b2n t) nul) ∧ Below w.heap.size w w' := by
  cases t
  · go_enter Tryz.func22, Tryz.ntmps22
    go_wp2
    exact bodyPost_ret (v := V 3 0 nul) (by simp [results, Tryz.results22, go_sem]) rfl ⟨rfl, (Below.refl _ _).alloc (Nat.le_refl _) _⟩
  · go_enter Tryz.func22, Tryz.ntmps22
    go_wp2
    exact bodyPost_ret (v := V 3 1 nul) (by simp [results, Tryz.results22, go_sem]) rfl ⟨rfl, (Below.refl _ _).alloc (Nat.le_refl _) _⟩
end
section
open Go.RowKit
end
section
open Go.RowKit
theorem rbad_any (n : Int) (w : World) :
    Calls Tryz.prog 23 #[.int .i64 n] w fun e w' => e = .returned (V 4 n nul) ∧ Below w.heap.size w w' := by
  go_enter Tryz.func23, Tryz.ntmps23
  go_wp2
  exact bodyPost_ret (v := V 4 n nul) (by simp [results, Tryz.results23, go_sem]) rfl ⟨rfl, (Below.refl _ _).alloc (Nat.le_refl _) _⟩
/-- The texts of what is bad, in a row of their own. -/
def wrongsC : Array Value := #[.string nul, .string bt0, .string bt1, .string bt2, .string bt3, .string bt4, .string bt5]
theorem wrongs_any (w : World) :
    Calls Tryz.prog 61 #[] w fun e w' => e = .returned (.slice (some ⟨w.heap.size, 0, none⟩) 7 7) ∧ w' = w.alloc (.cells wrongsC 9) := by
  go_enter Tryz.func61, Tryz.ntmps61
  go_wp2
  go_ret
  exact ⟨rfl, rfl⟩
theorem wrongs_cell (w : World) : (w.alloc (.cells wrongsC 9)).cell? ⟨w.heap.size, 1, none⟩ = some (.string bt0) ∧ (w.alloc (.cells wrongsC 9)).cell? ⟨w.heap.size, 2, none⟩ = some (.string bt1) ∧ (w.alloc (.cells wrongsC 9)).cell? ⟨w.heap.size, 3, none⟩ = some (.string bt2) ∧ (w.alloc (.cells wrongsC 9)).cell? ⟨w.heap.size, 4, none⟩ = some (.string bt3) ∧ (w.alloc (.cells wrongsC 9)).cell? ⟨w.heap.size, 5, none⟩ = some (.string bt4) ∧ (w.alloc (.cells wrongsC 9)).cell? ⟨w.heap.size, 6, none⟩ = some (.string bt5) := by
  refine ⟨?_, ?_, ?_, ?_, ?_, ?_⟩ <;> simp [wrongsC]
set_option maxRecDepth 100000 in
set_option maxHeartbeats 2000000 in
theorem named_true (s : ByteArray) (w : World) (ht : (s.toList == [84, 82, 85, 69]) = true) :
    Calls Tryz.prog 64 #[.string s] w fun e w' => e = .returned (.tuple #[V 3 (b2n true) nul, .bool true]) ∧ Below w.heap.size w w' := by
  have hC := Cell3.start w 31
  go_enter Tryz.func64, Tryz.ntmps64
  go_wp2_with fail
  refine (rtru_any _ _).mono ?_
  rintro e w1 ⟨rfl, b1⟩
  replace hC := hC.next b1
  obtain ⟨⟨_, hf⟩, ⟨_, c0, c1, c2⟩, hB, hle⟩ := hC
  go_wp2_with fail
  exact bodyPost_ret (v := .tuple #[V 3 (b2n true) nul, .bool true]) (by simp [results, Tryz.results64, go_sem, c0, c1, c2]) rfl ⟨rfl, by (repeat (first | exact Below.refl _ _ | assumption | (refine Below.setCell ?_ (by first | omega | (simp <;> omega)) _) | (refine Below.alloc ?_ (by first | omega | (simp <;> omega)) _) | (refine Below.drew ?_) | (refine Below.trans ?_ (Below.mono (by assumption) (by first | omega | (simp <;> omega))))))⟩
set_option maxRecDepth 100000 in
set_option maxHeartbeats 2000000 in
theorem named_false (s : ByteArray) (w : World) (ht : (s.toList == [84, 82, 85, 69]) = false) (hf0 : (s.toList == [70, 65, 76, 83, 69]) = true) :
    Calls Tryz.prog 64 #[.string s] w fun e w' => e = .returned (.tuple #[V 3 (b2n false) nul, .bool true]) ∧ Below w.heap.size w w' := by
  have hC := Cell3.start w 31
  go_enter Tryz.func64, Tryz.ntmps64
  go_wp2_with fail
  refine (rtru_any _ _).mono ?_
  rintro e w1 ⟨rfl, b1⟩
  replace hC := hC.next b1
  obtain ⟨⟨_, hf⟩, ⟨_, c0, c1, c2⟩, hB, hle⟩ := hC
  go_wp2_with fail
  exact bodyPost_ret (v := .tuple #[V 3 (b2n false) nul, .bool true]) (by simp [results, Tryz.results64, go_sem, c0, c1, c2]) rfl ⟨rfl, by (repeat (first | exact Below.refl _ _ | assumption | (refine Below.setCell ?_ (by first | omega | (simp <;> omega)) _) | (refine Below.alloc ?_ (by first | omega | (simp <;> omega)) _) | (refine Below.drew ?_) | (refine Below.trans ?_ (Below.mono (by assumption) (by first | omega | (simp <;> omega))))))⟩
set_option maxRecDepth 100000 in
set_option maxHeartbeats 2000000 in
theorem named_0 (s : ByteArray) (w : World) (ht : (s.toList == [84, 82, 85, 69]) = false) (hf0 : (s.toList == [70, 65, 76, 83, 69]) = false) (h0 : (s.toList == [35, 68, 73, 86, 33]) = true) :
    Calls Tryz.prog 64 #[.string s] w fun e w' => e = .returned (.tuple #[V 4 1 nul, .bool true]) ∧ Below w.heap.size w w' := by
  have g0 : ([35, 68, 73, 86, 33] == s.toList) = true := by rw [Bool.beq_comm]; exact h0
  have hC := Cell3.start w 31
  have hwc := wrongs_cell (w.alloc (.cells #[.int .i64 0, .int .i64 0, .string nul] 31))
  have bw : Below (w.alloc (.cells #[.int .i64 0, .int .i64 0, .string nul] 31)).heap.size (w.alloc (.cells #[.int .i64 0, .int .i64 0, .string nul] 31)) ((w.alloc (.cells #[.int .i64 0, .int .i64 0, .string nul] 31)).alloc (.cells wrongsC 9)) := (Below.refl _ _).alloc (Nat.le_refl _) _
  replace hC := hC.next bw
  go_enter Tryz.func64, Tryz.ntmps64
  go_wp2_with fail
  refine (wrongs_any _).mono ?_
  rintro e w1 ⟨rfl, rfl⟩
  generalize ((w.alloc (.cells #[.int .i64 0, .int .i64 0, .string nul] 31)).alloc (.cells wrongsC 9)) = W at *
  generalize (w.alloc (.cells #[.int .i64 0, .int .i64 0, .string nul] 31)).heap.size = bw0 at *
  clear bw
  obtain ⟨k1, k2, k3, k4, k5, k6⟩ := hwc
  go_wp2_with fail
  refine wp_loop_rounds 7 ?_
  iterate 1 (rw [rounds_succ]; go_wp2_with fail)
  refine (rbad_any _ _).mono ?_
  rintro e w2 ⟨rfl, b2⟩
  replace hC := hC.next b2
  obtain ⟨⟨_, hf⟩, ⟨_, c0, c1, c2⟩, hB, hle⟩ := hC
  go_wp2_with fail
  exact bodyPost_ret (v := .tuple #[V 4 1 nul, .bool true]) (by simp [results, Tryz.results64, go_sem, c0, c1, c2]) rfl ⟨rfl, by (repeat (first | exact Below.refl _ _ | assumption | (refine Below.setCell ?_ (by first | omega | (simp <;> omega)) _) | (refine Below.alloc ?_ (by first | omega | (simp <;> omega)) _) | (refine Below.drew ?_) | (refine Below.trans ?_ (Below.mono (by assumption) (by first | omega | (simp <;> omega))))))⟩
set_option maxRecDepth 100000 in
set_option maxHeartbeats 2000000 in
theorem named_1 (s : ByteArray) (w : World) (ht : (s.toList == [84, 82, 85, 69]) = false) (hf0 : (s.toList == [70, 65, 76, 83, 69]) = false) (h0 : (s.toList == [35, 68, 73, 86, 33]) = false) (h1 : (s.toList == [35, 86, 65, 76, 85, 69, 33]) = true) :
    Calls Tryz.prog 64 #[.string s] w fun e w' => e = .returned (.tuple #[V 4 2 nul, .bool true]) ∧ Below w.heap.size w w' := by
  have g0 : ([35, 68, 73, 86, 33] == s.toList) = false := by rw [Bool.beq_comm]; exact h0
  have g1 : ([35, 86, 65, 76, 85, 69, 33] == s.toList) = true := by rw [Bool.beq_comm]; exact h1
  have hC := Cell3.start w 31
  have hwc := wrongs_cell (w.alloc (.cells #[.int .i64 0, .int .i64 0, .string nul] 31))
  have bw : Below (w.alloc (.cells #[.int .i64 0, .int .i64 0, .string nul] 31)).heap.size (w.alloc (.cells #[.int .i64 0, .int .i64 0, .string nul] 31)) ((w.alloc (.cells #[.int .i64 0, .int .i64 0, .string nul] 31)).alloc (.cells wrongsC 9)) := (Below.refl _ _).alloc (Nat.le_refl _) _
  replace hC := hC.next bw
  go_enter Tryz.func64, Tryz.ntmps64
  go_wp2_with fail
  refine (wrongs_any _).mono ?_
  rintro e w1 ⟨rfl, rfl⟩
  generalize ((w.alloc (.cells #[.int .i64 0, .int .i64 0, .string nul] 31)).alloc (.cells wrongsC 9)) = W at *
  generalize (w.alloc (.cells #[.int .i64 0, .int .i64 0, .string nul] 31)).heap.size = bw0 at *
  clear bw
  obtain ⟨k1, k2, k3, k4, k5, k6⟩ := hwc
  go_wp2_with fail
  refine wp_loop_rounds 7 ?_
  iterate 2 (rw [rounds_succ]; go_wp2_with fail)
  refine (rbad_any _ _).mono ?_
  rintro e w2 ⟨rfl, b2⟩
  replace hC := hC.next b2
  obtain ⟨⟨_, hf⟩, ⟨_, c0, c1, c2⟩, hB, hle⟩ := hC
  go_wp2_with fail
  exact bodyPost_ret (v := .tuple #[V 4 2 nul, .bool true]) (by simp [results, Tryz.results64, go_sem, c0, c1, c2]) rfl ⟨rfl, by (repeat (first | exact Below.refl _ _ | assumption | (refine Below.setCell ?_ (by first | omega | (simp <;> omega)) _) | (refine Below.alloc ?_ (by first | omega | (simp <;> omega)) _) | (refine Below.drew ?_) | (refine Below.trans ?_ (Below.mono (by assumption) (by first | omega | (simp <;> omega))))))⟩
set_option maxRecDepth 100000 in
set_option maxHeartbeats 2000000 in
theorem named_2 (s : ByteArray) (w : World) (ht : (s.toList == [84, 82, 85, 69]) = false) (hf0 : (s.toList == [70, 65, 76, 83, 69]) = false) (h0 : (s.toList == [35, 68, 73, 86, 33]) = false) (h1 : (s.toList == [35, 86, 65, 76, 85, 69, 33]) = false) (h2 : (s.toList == [35, 82, 69, 70, 33]) = true) :
    Calls Tryz.prog 64 #[.string s] w fun e w' => e = .returned (.tuple #[V 4 3 nul, .bool true]) ∧ Below w.heap.size w w' := by
  have g0 : ([35, 68, 73, 86, 33] == s.toList) = false := by rw [Bool.beq_comm]; exact h0
  have g1 : ([35, 86, 65, 76, 85, 69, 33] == s.toList) = false := by rw [Bool.beq_comm]; exact h1
  have g2 : ([35, 82, 69, 70, 33] == s.toList) = true := by rw [Bool.beq_comm]; exact h2
  have hC := Cell3.start w 31
  have hwc := wrongs_cell (w.alloc (.cells #[.int .i64 0, .int .i64 0, .string nul] 31))
  have bw : Below (w.alloc (.cells #[.int .i64 0, .int .i64 0, .string nul] 31)).heap.size (w.alloc (.cells #[.int .i64 0, .int .i64 0, .string nul] 31)) ((w.alloc (.cells #[.int .i64 0, .int .i64 0, .string nul] 31)).alloc (.cells wrongsC 9)) := (Below.refl _ _).alloc (Nat.le_refl _) _
  replace hC := hC.next bw
  go_enter Tryz.func64, Tryz.ntmps64
  go_wp2_with fail
  refine (wrongs_any _).mono ?_
  rintro e w1 ⟨rfl, rfl⟩
  generalize ((w.alloc (.cells #[.int .i64 0, .int .i64 0, .string nul] 31)).alloc (.cells wrongsC 9)) = W at *
  generalize (w.alloc (.cells #[.int .i64 0, .int .i64 0, .string nul] 31)).heap.size = bw0 at *
  clear bw
  obtain ⟨k1, k2, k3, k4, k5, k6⟩ := hwc
  go_wp2_with fail
  refine wp_loop_rounds 7 ?_
  iterate 3 (rw [rounds_succ]; go_wp2_with fail)
  refine (rbad_any _ _).mono ?_
  rintro e w2 ⟨rfl, b2⟩
  replace hC := hC.next b2
  obtain ⟨⟨_, hf⟩, ⟨_, c0, c1, c2⟩, hB, hle⟩ := hC
  go_wp2_with fail
  exact bodyPost_ret (v := .tuple #[V 4 3 nul, .bool true]) (by simp [results, Tryz.results64, go_sem, c0, c1, c2]) rfl ⟨rfl, by (repeat (first | exact Below.refl _ _ | assumption | (refine Below.setCell ?_ (by first | omega | (simp <;> omega)) _) | (refine Below.alloc ?_ (by first | omega | (simp <;> omega)) _) | (refine Below.drew ?_) | (refine Below.trans ?_ (Below.mono (by assumption) (by first | omega | (simp <;> omega))))))⟩
set_option maxRecDepth 100000 in
set_option maxHeartbeats 2000000 in
theorem named_3 (s : ByteArray) (w : World) (ht : (s.toList == [84, 82, 85, 69]) = false) (hf0 : (s.toList == [70, 65, 76, 83, 69]) = false) (h0 : (s.toList == [35, 68, 73, 86, 33]) = false) (h1 : (s.toList == [35, 86, 65, 76, 85, 69, 33]) = false) (h2 : (s.toList == [35, 82, 69, 70, 33]) = false) (h3 : (s.toList == [35, 78, 65, 77, 69, 33]) = true) :
    Calls Tryz.prog 64 #[.string s] w fun e w' => e = .returned (.tuple #[V 4 4 nul, .bool true]) ∧ Below w.heap.size w w' := by
  have g0 : ([35, 68, 73, 86, 33] == s.toList) = false := by rw [Bool.beq_comm]; exact h0
  have g1 : ([35, 86, 65, 76, 85, 69, 33] == s.toList) = false := by rw [Bool.beq_comm]; exact h1
  have g2 : ([35, 82, 69, 70, 33] == s.toList) = false := by rw [Bool.beq_comm]; exact h2
  have g3 : ([35, 78, 65, 77, 69, 33] == s.toList) = true := by rw [Bool.beq_comm]; exact h3
  have hC := Cell3.start w 31
  have hwc := wrongs_cell (w.alloc (.cells #[.int .i64 0, .int .i64 0, .string nul] 31))
  have bw : Below (w.alloc (.cells #[.int .i64 0, .int .i64 0, .string nul] 31)).heap.size (w.alloc (.cells #[.int .i64 0, .int .i64 0, .string nul] 31)) ((w.alloc (.cells #[.int .i64 0, .int .i64 0, .string nul] 31)).alloc (.cells wrongsC 9)) := (Below.refl _ _).alloc (Nat.le_refl _) _
  replace hC := hC.next bw
  go_enter Tryz.func64, Tryz.ntmps64
  go_wp2_with fail
  refine (wrongs_any _).mono ?_
  rintro e w1 ⟨rfl, rfl⟩
  generalize ((w.alloc (.cells #[.int .i64 0, .int .i64 0, .string nul] 31)).alloc (.cells wrongsC 9)) = W at *
  generalize (w.alloc (.cells #[.int .i64 0, .int .i64 0, .string nul] 31)).heap.size = bw0 at *
  clear bw
  obtain ⟨k1, k2, k3, k4, k5, k6⟩ := hwc
  go_wp2_with fail
  refine wp_loop_rounds 7 ?_
  iterate 4 (rw [rounds_succ]; go_wp2_with fail)
  refine (rbad_any _ _).mono ?_
  rintro e w2 ⟨rfl, b2⟩
  replace hC := hC.next b2
  obtain ⟨⟨_, hf⟩, ⟨_, c0, c1, c2⟩, hB, hle⟩ := hC
  go_wp2_with fail
  exact bodyPost_ret (v := .tuple #[V 4 4 nul, .bool true]) (by simp [results, Tryz.results64, go_sem, c0, c1, c2]) rfl ⟨rfl, by (repeat (first | exact Below.refl _ _ | assumption | (refine Below.setCell ?_ (by first | omega | (simp <;> omega)) _) | (refine Below.alloc ?_ (by first | omega | (simp <;> omega)) _) | (refine Below.drew ?_) | (refine Below.trans ?_ (Below.mono (by assumption) (by first | omega | (simp <;> omega))))))⟩
set_option maxRecDepth 100000 in
set_option maxHeartbeats 2000000 in
theorem named_4 (s : ByteArray) (w : World) (ht : (s.toList == [84, 82, 85, 69]) = false) (hf0 : (s.toList == [70, 65, 76, 83, 69]) = false) (h0 : (s.toList == [35, 68, 73, 86, 33]) = false) (h1 : (s.toList == [35, 86, 65, 76, 85, 69, 33]) = false) (h2 : (s.toList == [35, 82, 69, 70, 33]) = false) (h3 : (s.toList == [35, 78, 65, 77, 69, 33]) = false) (h4 : (s.toList == [35, 78, 85, 77, 33]) = true) :
    Calls Tryz.prog 64 #[.string s] w fun e w' => e = .returned (.tuple #[V 4 5 nul, .bool true]) ∧ Below w.heap.size w w' := by
  have g0 : ([35, 68, 73, 86, 33] == s.toList) = false := by rw [Bool.beq_comm]; exact h0
  have g1 : ([35, 86, 65, 76, 85, 69, 33] == s.toList) = false := by rw [Bool.beq_comm]; exact h1
  have g2 : ([35, 82, 69, 70, 33] == s.toList) = false := by rw [Bool.beq_comm]; exact h2
  have g3 : ([35, 78, 65, 77, 69, 33] == s.toList) = false := by rw [Bool.beq_comm]; exact h3
  have g4 : ([35, 78, 85, 77, 33] == s.toList) = true := by rw [Bool.beq_comm]; exact h4
  have hC := Cell3.start w 31
  have hwc := wrongs_cell (w.alloc (.cells #[.int .i64 0, .int .i64 0, .string nul] 31))
  have bw : Below (w.alloc (.cells #[.int .i64 0, .int .i64 0, .string nul] 31)).heap.size (w.alloc (.cells #[.int .i64 0, .int .i64 0, .string nul] 31)) ((w.alloc (.cells #[.int .i64 0, .int .i64 0, .string nul] 31)).alloc (.cells wrongsC 9)) := (Below.refl _ _).alloc (Nat.le_refl _) _
  replace hC := hC.next bw
  go_enter Tryz.func64, Tryz.ntmps64
  go_wp2_with fail
  refine (wrongs_any _).mono ?_
  rintro e w1 ⟨rfl, rfl⟩
  generalize ((w.alloc (.cells #[.int .i64 0, .int .i64 0, .string nul] 31)).alloc (.cells wrongsC 9)) = W at *
  generalize (w.alloc (.cells #[.int .i64 0, .int .i64 0, .string nul] 31)).heap.size = bw0 at *
  clear bw
  obtain ⟨k1, k2, k3, k4, k5, k6⟩ := hwc
  go_wp2_with fail
  refine wp_loop_rounds 7 ?_
  iterate 5 (rw [rounds_succ]; go_wp2_with fail)
  refine (rbad_any _ _).mono ?_
  rintro e w2 ⟨rfl, b2⟩
  replace hC := hC.next b2
  obtain ⟨⟨_, hf⟩, ⟨_, c0, c1, c2⟩, hB, hle⟩ := hC
  go_wp2_with fail
  exact bodyPost_ret (v := .tuple #[V 4 5 nul, .bool true]) (by simp [results, Tryz.results64, go_sem, c0, c1, c2]) rfl ⟨rfl, by (repeat (first | exact Below.refl _ _ | assumption | (refine Below.setCell ?_ (by first | omega | (simp <;> omega)) _) | (refine Below.alloc ?_ (by first | omega | (simp <;> omega)) _) | (refine Below.drew ?_) | (refine Below.trans ?_ (Below.mono (by assumption) (by first | omega | (simp <;> omega))))))⟩
set_option maxRecDepth 100000 in
set_option maxHeartbeats 2000000 in
theorem named_5 (s : ByteArray) (w : World) (ht : (s.toList == [84, 82, 85, 69]) = false) (hf0 : (s.toList == [70, 65, 76, 83, 69]) = false) (h0 : (s.toList == [35, 68, 73, 86, 33]) = false) (h1 : (s.toList == [35, 86, 65, 76, 85, 69, 33]) = false) (h2 : (s.toList == [35, 82, 69, 70, 33]) = false) (h3 : (s.toList == [35, 78, 65, 77, 69, 33]) = false) (h4 : (s.toList == [35, 78, 85, 77, 33]) = false) (h5 : (s.toList == [35, 78, 79, 78, 69, 33]) = true) :
    Calls Tryz.prog 64 #[.string s] w fun e w' => e = .returned (.tuple #[V 4 6 nul, .bool true]) ∧ Below w.heap.size w w' := by
  have g0 : ([35, 68, 73, 86, 33] == s.toList) = false := by rw [Bool.beq_comm]; exact h0
  have g1 : ([35, 86, 65, 76, 85, 69, 33] == s.toList) = false := by rw [Bool.beq_comm]; exact h1
  have g2 : ([35, 82, 69, 70, 33] == s.toList) = false := by rw [Bool.beq_comm]; exact h2
  have g3 : ([35, 78, 65, 77, 69, 33] == s.toList) = false := by rw [Bool.beq_comm]; exact h3
  have g4 : ([35, 78, 85, 77, 33] == s.toList) = false := by rw [Bool.beq_comm]; exact h4
  have g5 : ([35, 78, 79, 78, 69, 33] == s.toList) = true := by rw [Bool.beq_comm]; exact h5
  have hC := Cell3.start w 31
  have hwc := wrongs_cell (w.alloc (.cells #[.int .i64 0, .int .i64 0, .string nul] 31))
  have bw : Below (w.alloc (.cells #[.int .i64 0, .int .i64 0, .string nul] 31)).heap.size (w.alloc (.cells #[.int .i64 0, .int .i64 0, .string nul] 31)) ((w.alloc (.cells #[.int .i64 0, .int .i64 0, .string nul] 31)).alloc (.cells wrongsC 9)) := (Below.refl _ _).alloc (Nat.le_refl _) _
  replace hC := hC.next bw
  go_enter Tryz.func64, Tryz.ntmps64
  go_wp2_with fail
  refine (wrongs_any _).mono ?_
  rintro e w1 ⟨rfl, rfl⟩
  generalize ((w.alloc (.cells #[.int .i64 0, .int .i64 0, .string nul] 31)).alloc (.cells wrongsC 9)) = W at *
  generalize (w.alloc (.cells #[.int .i64 0, .int .i64 0, .string nul] 31)).heap.size = bw0 at *
  clear bw
  obtain ⟨k1, k2, k3, k4, k5, k6⟩ := hwc
  go_wp2_with fail
  refine wp_loop_rounds 7 ?_
  iterate 6 (rw [rounds_succ]; go_wp2_with fail)
  refine (rbad_any _ _).mono ?_
  rintro e w2 ⟨rfl, b2⟩
  replace hC := hC.next b2
  obtain ⟨⟨_, hf⟩, ⟨_, c0, c1, c2⟩, hB, hle⟩ := hC
  go_wp2_with fail
  exact bodyPost_ret (v := .tuple #[V 4 6 nul, .bool true]) (by simp [results, Tryz.results64, go_sem, c0, c1, c2]) rfl ⟨rfl, by (repeat (first | exact Below.refl _ _ | assumption | (refine Below.setCell ?_ (by first | omega | (simp <;> omega)) _) | (refine Below.alloc ?_ (by first | omega | (simp <;> omega)) _) | (refine Below.drew ?_) | (refine Below.trans ?_ (Below.mono (by assumption) (by first | omega | (simp <;> omega))))))⟩
set_option maxRecDepth 100000 in
set_option maxHeartbeats 2000000 in
theorem named_6 (s : ByteArray) (w : World) (ht : (s.toList == [84, 82, 85, 69]) = false) (hf0 : (s.toList == [70, 65, 76, 83, 69]) = false) (h0 : (s.toList == [35, 68, 73, 86, 33]) = false) (h1 : (s.toList == [35, 86, 65, 76, 85, 69, 33]) = false) (h2 : (s.toList == [35, 82, 69, 70, 33]) = false) (h3 : (s.toList == [35, 78, 65, 77, 69, 33]) = false) (h4 : (s.toList == [35, 78, 85, 77, 33]) = false) (h5 : (s.toList == [35, 78, 79, 78, 69, 33]) = false) :
    Calls Tryz.prog 64 #[.string s] w fun e w' => e = .returned (.tuple #[V 0 0 nul, .bool false]) ∧ Below w.heap.size w w' := by
  have g0 : ([35, 68, 73, 86, 33] == s.toList) = false := by rw [Bool.beq_comm]; exact h0
  have g1 : ([35, 86, 65, 76, 85, 69, 33] == s.toList) = false := by rw [Bool.beq_comm]; exact h1
  have g2 : ([35, 82, 69, 70, 33] == s.toList) = false := by rw [Bool.beq_comm]; exact h2
  have g3 : ([35, 78, 65, 77, 69, 33] == s.toList) = false := by rw [Bool.beq_comm]; exact h3
  have g4 : ([35, 78, 85, 77, 33] == s.toList) = false := by rw [Bool.beq_comm]; exact h4
  have g5 : ([35, 78, 79, 78, 69, 33] == s.toList) = false := by rw [Bool.beq_comm]; exact h5
  have hC := Cell3.start w 31
  have hwc := wrongs_cell (w.alloc (.cells #[.int .i64 0, .int .i64 0, .string nul] 31))
  have bw : Below (w.alloc (.cells #[.int .i64 0, .int .i64 0, .string nul] 31)).heap.size (w.alloc (.cells #[.int .i64 0, .int .i64 0, .string nul] 31)) ((w.alloc (.cells #[.int .i64 0, .int .i64 0, .string nul] 31)).alloc (.cells wrongsC 9)) := (Below.refl _ _).alloc (Nat.le_refl _) _
  replace hC := hC.next bw
  go_enter Tryz.func64, Tryz.ntmps64
  go_wp2_with fail
  refine (wrongs_any _).mono ?_
  rintro e w1 ⟨rfl, rfl⟩
  generalize ((w.alloc (.cells #[.int .i64 0, .int .i64 0, .string nul] 31)).alloc (.cells wrongsC 9)) = W at *
  generalize (w.alloc (.cells #[.int .i64 0, .int .i64 0, .string nul] 31)).heap.size = bw0 at *
  clear bw
  obtain ⟨k1, k2, k3, k4, k5, k6⟩ := hwc
  go_wp2_with fail
  refine wp_loop_rounds 7 ?_
  obtain ⟨⟨_, hf⟩, ⟨_, c0, c1, c2⟩, hB, hle⟩ := hC
  iterate 7 (rw [rounds_succ]; go_wp2_with fail)
  exact bodyPost_ret (v := .tuple #[V 0 0 nul, .bool false]) (by simp [results, Tryz.results64, go_sem, c0, c1, c2]) rfl ⟨rfl, by (repeat (first | exact Below.refl _ _ | assumption | (refine Below.setCell ?_ (by first | omega | (simp <;> omega)) _) | (refine Below.alloc ?_ (by first | omega | (simp <;> omega)) _) | (refine Below.drew ?_) | (refine Below.trans ?_ (Below.mono (by assumption) (by first | omega | (simp <;> omega))))))⟩
end
section
open Go.RowKit
theorem kept3 (w : World) (b : Nat) (x y z x' y' z' : Value) (o : Obj) (c0 : w.cell? ⟨b, 0, none⟩ = some x') (c1 : w.cell? ⟨b, 1, none⟩ = some y') (c2 : w.cell? ⟨b, 2, none⟩ = some z') :
    ((((w.setCell ⟨b, 0, none⟩ x).setCell ⟨b, 1, none⟩ y).setCell ⟨b, 2, none⟩ z).alloc o).cell? ⟨b, 0, none⟩ = some x ∧ ((((w.setCell ⟨b, 0, none⟩ x).setCell ⟨b, 1, none⟩ y).setCell ⟨b, 2, none⟩ z).alloc o).cell? ⟨b, 1, none⟩ = some y ∧ ((((w.setCell ⟨b, 0, none⟩ x).setCell ⟨b, 1, none⟩ y).setCell ⟨b, 2, none⟩ z).alloc o).cell? ⟨b, 2, none⟩ = some z := by
  refine ⟨?_, ?_, ?_⟩
  · rw [World.cell?_alloc_some _ _ _ (by simp [go_sem, c0])]; simp [go_sem, c0]
  · rw [World.cell?_alloc_some _ _ _ (by simp [go_sem, c1])]; simp [go_sem, c1]
  · rw [World.cell?_alloc_some _ _ _ (by simp [go_sem, c2])]; simp [go_sem, c2]
/-- What Named answers. -/
def NamedIs (s : ByteArray) (k n : Int) (ok : Bool) : Prop := ∀ w, Calls Tryz.prog 64 #[.string s] w fun e w' => e = .returned (.tuple #[V k n nul, .bool ok]) ∧ Below w.heap.size w w'
/-- What Whole answers. -/
def WholeIs (s : ByteArray) (n : Int) (ok : Bool) : Prop := ∀ w, Calls Tryz.prog 63 #[.string s, .bool true] w fun e w' => e = .returned (.tuple #[.int .i64 n, .bool ok]) ∧ Below w.heap.size w w'
set_option maxHeartbeats 1000000 in
theorem rread_empty (s : ByteArray) (w : World) (h0 : s.toList.isEmpty = true) :
    Calls Tryz.prog 36 #[.string s] w fun e w' => e = .returned (V 0 0 nul) ∧ Below w.heap.size w w' := by
  go_enter Tryz.func36, Tryz.ntmps36
  go_wp2
  exact bodyPost_ret (v := V 0 0 nul) (by simp [results, Tryz.results36, go_sem]) rfl ⟨rfl, by (repeat (first | exact Below.refl _ _ | assumption | (refine Below.setCell ?_ (by first | omega | (simp <;> omega)) _) | (refine Below.alloc ?_ (by first | omega | (simp <;> omega)) _) | (refine Below.drew ?_) | (refine Below.trans ?_ (Below.mono (by assumption) (by first | omega | (simp <;> omega))))))⟩
set_option maxRecDepth 100000 in
set_option maxHeartbeats 1000000 in
theorem rread_num (s : ByteArray) (w : World) (h0 : s.toList.isEmpty = false) (n : Int) (hw : WholeIs s n true) :
    Calls Tryz.prog 36 #[.string s] w fun e w' => e = .returned (V 1 n nul) ∧ Below w.heap.size w w' := by
  have hC := Cell3.start w 31
  go_enter Tryz.func36, Tryz.ntmps36
  go_wp2_with fail
  refine (hw _).mono ?_
  rintro e w1 ⟨rfl, b1⟩
  replace hC := hC.next b1
  go_wp2_with fail
  refine (rnum_any _ _).mono ?_
  rintro e w2 ⟨rfl, b2⟩
  replace hC := hC.next b2
  obtain ⟨⟨_, hf⟩, ⟨_, c0, c1, c2⟩, hB, hle⟩ := hC
  go_wp2_with fail
  exact bodyPost_ret (v := V 1 n nul) (by simp [results, Tryz.results36, go_sem, c0, c1, c2]) rfl ⟨rfl, by (repeat (first | exact Below.refl _ _ | assumption | (refine Below.setCell ?_ (by first | omega | (simp <;> omega)) _) | (refine Below.alloc ?_ (by first | omega | (simp <;> omega)) _) | (refine Below.drew ?_) | (refine Below.trans ?_ (Below.mono (by assumption) (by first | omega | (simp <;> omega))))))⟩
set_option maxRecDepth 100000 in
set_option maxHeartbeats 1000000 in
theorem rread_named (s : ByteArray) (w : World) (h0 : s.toList.isEmpty = false) (k n : Int) (hw : WholeIs s 0 false) (hn : NamedIs s k n true) :
    Calls Tryz.prog 36 #[.string s] w fun e w' => e = .returned (V k n nul) ∧ Below w.heap.size w w' := by
  have hC := Cell3.start w 31
  go_enter Tryz.func36, Tryz.ntmps36
  go_wp2_with fail
  refine (hw _).mono ?_
  rintro e w1 ⟨rfl, b1⟩
  replace hC := hC.next b1
  go_wp2_with fail
  refine (hn _).mono ?_
  rintro e w2 ⟨rfl, b2⟩
  replace hC := hC.next b2
  obtain ⟨⟨lt6, hf⟩, ⟨_, c0, c1, c2⟩, hB, hle⟩ := hC
  go_wp2_with fail
  exact bodyPost_ret (v := V k n nul) (by simp [results, Tryz.results36, go_sem, (kept3 w2 w.heap.size (.int .i64 k) (.int .i64 n) (.string nul) _ _ _ (.cells #[.int .i64 k, .int .i64 n, .string nul] 31) c0 c1 c2)]) rfl ⟨rfl, by (repeat (first | exact Below.refl _ _ | assumption | (refine Below.setCell ?_ (by first | omega | (simp <;> omega)) _) | (refine Below.alloc ?_ (by first | omega | (simp <;> omega)) _) | (refine Below.drew ?_) | (refine Below.trans ?_ (Below.mono (by assumption) (by first | omega | (simp <;> omega))))))⟩
set_option maxRecDepth 100000 in
set_option maxHeartbeats 1000000 in
theorem rread_long (s : ByteArray) (w : World) (h0 : s.toList.isEmpty = false) (hl : (200 : Int) < (s.size : Int)) (hw : WholeIs s 0 false) (hn : NamedIs s 0 0 false) :
    Calls Tryz.prog 36 #[.string s] w fun e w' => e = .returned (V 4 2 nul) ∧ Below w.heap.size w w' := by
  have hC := Cell3.start w 31
  go_enter Tryz.func36, Tryz.ntmps36
  go_wp2_with fail
  refine (hw _).mono ?_
  rintro e w1 ⟨rfl, b1⟩
  replace hC := hC.next b1
  go_wp2_with fail
  refine (hn _).mono ?_
  rintro e w2 ⟨rfl, b2⟩
  replace hC := hC.next b2
  go_wp2_with fail
  refine (rbad_any _ _).mono ?_
  rintro e w3 ⟨rfl, b3⟩
  replace hC := hC.next ((Below.refl _ _).alloc (Nat.le_refl _) (.cells #[.int .i64 0, .int .i64 0, .string nul] 31))
  replace hC := hC.next b3
  obtain ⟨⟨_, hf⟩, ⟨_, c0, c1, c2⟩, hB, hle⟩ := hC
  go_wp2_with fail
  exact bodyPost_ret (v := V 4 2 nul) (by simp [results, Tryz.results36, go_sem, c0, c1, c2]) rfl ⟨rfl, by (repeat (first | exact Below.refl _ _ | assumption | (refine Below.setCell ?_ (by first | omega | (simp <;> omega)) _) | (refine Below.alloc ?_ (by first | omega | (simp <;> omega)) _) | (refine Below.drew ?_) | (refine Below.trans ?_ (Below.mono (by assumption) (by first | omega | (simp <;> omega))))))⟩
set_option maxRecDepth 100000 in
set_option maxHeartbeats 1000000 in
theorem rread_text (s : ByteArray) (w : World) (h0 : s.toList.isEmpty = false) (hl : (s.size : Int) ≤ 200) (hw : WholeIs s 0 false) (hn : NamedIs s 0 0 false) :
    Calls Tryz.prog 36 #[.string s] w fun e w' => e = .returned (V 2 0 s) ∧ Below w.heap.size w w' := by
  have hC := Cell3.start w 31
  go_enter Tryz.func36, Tryz.ntmps36
  go_wp2_with fail
  refine (hw _).mono ?_
  rintro e w1 ⟨rfl, b1⟩
  replace hC := hC.next b1
  go_wp2_with fail
  refine (hn _).mono ?_
  rintro e w2 ⟨rfl, b2⟩
  replace hC := hC.next b2
  go_wp2_with fail
  refine (rtxt_any _ _).mono ?_
  rintro e w3 ⟨rfl, b3⟩
  replace hC := hC.next ((Below.refl _ _).alloc (Nat.le_refl _) (.cells #[.int .i64 0, .int .i64 0, .string nul] 31))
  replace hC := hC.next b3
  obtain ⟨⟨_, hf⟩, ⟨_, c0, c1, c2⟩, hB, hle⟩ := hC
  go_wp2_with fail
  exact bodyPost_ret (v := V 2 0 s) (by simp [results, Tryz.results36, go_sem, c0, c1, c2]) rfl ⟨rfl, by (repeat (first | exact Below.refl _ _ | assumption | (refine Below.setCell ?_ (by first | omega | (simp <;> omega)) _) | (refine Below.alloc ?_ (by first | omega | (simp <;> omega)) _) | (refine Below.drew ?_) | (refine Below.trans ?_ (Below.mono (by assumption) (by first | omega | (simp <;> omega))))))⟩
theorem size_of_eq {s : ByteArray} {l : List UInt8} (h : (s.toList == l) = true) : s.size = l.length := by
  rw [beq_iff_eq, ByteArray.toList_eq] at h
  rw [← h]
  simp
theorem rread_any (s : ByteArray) (w : World) (hs : s.size ≤ 140737488355328) :
    Calls Tryz.prog 36 #[.string s] w fun e w' => e = .returned (V (rd s).1 (rd s).2.1 (rd s).2.2) ∧ Below w.heap.size w w' := by
  unfold rd
  by_cases h0 : s.toList.isEmpty = true
  · rw [if_pos h0]; exact rread_empty s w h0
  rw [if_neg h0]
  rw [Bool.not_eq_true] at h0
  have hwh := fun w => whole_any s w hs h0
  rw [whole_num s] at hwh
  cases hn : numOf s with
  | some v =>
    rw [hn] at hwh
    obtain ⟨ha, hi⟩ := numOf_some hn
    obtain ⟨b1, b2⟩ := atoi_bd ha
    have hlen := itoa_len v b1 b2
    have hsz : s.size = s.data.toList.length := by simp
    rw [hi] at hlen
    rw [if_neg (by omega)]
    exact rread_num s w h0 v hwh
  | none =>
    rw [hn] at hwh
    have hw : WholeIs s 0 false := hwh
    clear hwh
    cases ht : s.toList == [84, 82, 85, 69] with
    | true =>
      have hz := size_of_eq ht
      rw [if_neg (by simp at hz; omega)]
      simp only [if_true]
      exact rread_named s w h0 3 1 hw (fun w => named_true s w ht)
    | false =>
    cases hf : s.toList == [70, 65, 76, 83, 69] with
    | true =>
      have hz := size_of_eq hf
      rw [if_neg (by simp at hz; omega)]
      simp only [Bool.false_eq_true, if_false, if_true]
      exact rread_named s w h0 3 0 hw (fun w => named_false s w ht hf)
    | false =>
    cases h0' : s.toList == [35, 68, 73, 86, 33] with
    | true =>
      have hz := size_of_eq h0'
      have hb : badOf s = 1 := by unfold badOf; simp [h0']
      rw [if_neg (by simp at hz; omega), hb]
      exact rread_named s w h0 4 1 hw (fun w => named_0 s w ht hf h0')
    | false =>
    cases h1 : s.toList == [35, 86, 65, 76, 85, 69, 33] with
    | true =>
      have hz := size_of_eq h1
      have hb : badOf s = 2 := by unfold badOf; simp [h0', h1]
      rw [if_neg (by simp at hz; omega), hb]
      exact rread_named s w h0 4 2 hw (fun w => named_1 s w ht hf h0' h1)
    | false =>
    cases h2 : s.toList == [35, 82, 69, 70, 33] with
    | true =>
      have hz := size_of_eq h2
      have hb : badOf s = 3 := by unfold badOf; simp [h0', h1, h2]
      rw [if_neg (by simp at hz; omega), hb]
      exact rread_named s w h0 4 3 hw (fun w => named_2 s w ht hf h0' h1 h2)
    | false =>
    cases h3 : s.toList == [35, 78, 65, 77, 69, 33] with
    | true =>
      have hz := size_of_eq h3
      have hb : badOf s = 4 := by unfold badOf; simp [h0', h1, h2, h3]
      rw [if_neg (by simp at hz; omega), hb]
      exact rread_named s w h0 4 4 hw (fun w => named_3 s w ht hf h0' h1 h2 h3)
    | false =>
    cases h4 : s.toList == [35, 78, 85, 77, 33] with
    | true =>
      have hz := size_of_eq h4
      have hb : badOf s = 5 := by unfold badOf; simp [h0', h1, h2, h3, h4]
      rw [if_neg (by simp at hz; omega), hb]
      exact rread_named s w h0 4 5 hw (fun w => named_4 s w ht hf h0' h1 h2 h3 h4)
    | false =>
    cases h5 : s.toList == [35, 78, 79, 78, 69, 33] with
    | true =>
      have hz := size_of_eq h5
      have hb : badOf s = 6 := by unfold badOf; simp [h0', h1, h2, h3, h4, h5]
      rw [if_neg (by simp at hz; omega), hb]
      exact rread_named s w h0 4 6 hw (fun w => named_5 s w ht hf h0' h1 h2 h3 h4 h5)
    | false =>
    have hb : badOf s = 0 := by unfold badOf; simp [h0', h1, h2, h3, h4, h5]
    have hnm : NamedIs s 0 0 false := fun w => named_6 s w ht hf h0' h1 h2 h3 h4 h5
    by_cases hl : (200 : Int) < (s.size : Int)
    · rw [if_pos hl]
      exact rread_long s w h0 hl hw hnm
    · rw [if_neg hl, hb]
      exact rread_text s w h0 (by omega) hw hnm
end
end Go.Proofs.YtoaejcppfmjhdaaGreatDoor
