/- Whole, as the reference reads a number of its digits: what it returns, for every text. Conditions: the text has at most 2^47 bytes. -/
import Derived.Test.YtgoadofnfaidcaaGreatDoorWholeM
import Derived.Test.YtgoadofnfaidcaaGreatDoorIsInt
import Derived.Test.YtgoadofnfaidcaaGreatDoorIntMul
import Derived.Test.YtgoadofnfaidcaaGreatDoorIntAdd
import Derived.Test.YtgoadofnfaidcaaGreatDoorNeg
import Derived.Deep.DeepCutAuto
import Derived.Lib.IndexBytes
namespace Go.Proofs.YtgoadofnfaidcaaGreatDoor
open Go.RowKit
set_option maxHeartbeats 1000000 in
theorem fits_any (bz x : Nat) (neg : Bool) (w : World) (hz : BigInt w bz neg x) :
    Calls Tryz.prog 65 #[ptr bz] w fun e w' => e = .returned (.bool (fitI neg x)) ∧ w' = w := by
  go_enter Tryz.func65, Tryz.ntmps65
  go_wp2_with fail
  refine (isInt_any bz x neg _ hz).mono ?_
  rintro e w1 ⟨rfl, rfl⟩
  go_wp2_with fail
  go_ret
  exact ⟨rfl, rfl⟩
theorem take_snoc (t : ByteArray) (k : Nat) (h : k < t.size) : t.data.toList.take (k + 1) = t.data.toList.take k ++ [t[k]] := by
  rw [List.take_succ_eq_append_getElem (by simpa using h)]; rfl
theorem byte_lt (c : UInt8) : c.toNat < 256 := UInt8.toNat_lt c
/-- n times 10, and a digit. -/
theorem mul10 (bz x : Nat) (w : World) (hz : BigInt w bz false x) (b2 : Nat) (hy : BigInt w b2 false 10) (hs : Small x) :
    Calls Tryz.prog 63 #[ptr bz, ptr bz, ptr b2] w fun e w' => e = .returned (ptr bz) ∧ BigInt w' bz false (x * 10) ∧ ∀ B, B ≤ bz → Below B w w' :=
  mulM bz b2 x 10 false false w hz hy hs (by omega)
/-- What the text behind the sign says of the answer. -/
def wAns (neg : Bool) (x : Nat) : Int := if fitI neg x = true then (if neg = true then -(x : Int) else (x : Int)) else 0
def wRes (neg : Bool) (l : List UInt8) : Int := if l.all dig = true then wAns neg (dv l) else 0
def wOk (neg : Bool) (l : List UInt8) : Bool := l.all dig && fitI neg (dv l)
theorem w_no {neg : Bool} {t : ByteArray} {k : Nat} (hlt : k < t.size) (h : dig t[k] = false) : wRes neg t.data.toList = 0 ∧ wOk neg t.data.toList = false := by
  have : t.data.toList.all dig = false := by
    rw [List.all_eq_false]
    exact ⟨t[k], Array.mem_toList_iff.2 (Array.getElem_mem (xs := t.data) hlt), by simp [h]⟩
  unfold wRes wOk
  rw [this]
  exact ⟨if_neg (by simp), by simp⟩
set_option maxRecDepth 100000 in
set_option maxHeartbeats 4000000 in
theorem whole_go (s t : ByteArray) (neg : Bool) (w : World) (hs : s.size ≤ 140737488355328) (ht : t.size ≤ s.size)
    (hneg : neg = true → s.toList.isEmpty = false ∧ t = s.extract 1 s.size ∧ t.size + 1 = s.size ∧ ∃ hp : 0 < s.size, ((((s[0]'hp).toNat : Nat) : Int) == 45) = true)
    (hpos : neg = false → t = s ∧ (s.toList.isEmpty = true ∨ (s.toList.isEmpty = false ∧ ∃ hp : 0 < s.size, ((((s[0]'hp).toNat : Nat) : Int) == 45) = false)))
    (hok : t.toList.isEmpty = false) (hp : 0 < t.size) (h48 : (((t[0]'hp).toNat : Int) == 48) = false ∨ ((((t[0]'hp).toNat : Int) == 48) = true ∧ (s.toList == [48]) = true)) (hx0 : neg = true → t.data.toList.all dig = true → dv t.data.toList ≠ 0) :
    Calls Tryz.prog 60 #[.string s, .bool true] w fun e w' => e = .returned (.tuple #[.int .i64 (wRes neg t.data.toList), .bool (wOk neg t.data.toList)]) ∧ Below w.heap.size w w' := by
  have HX0 : Hid (neg = true → t.data.toList.all dig = true → dv t.data.toList ≠ 0) := hx0
  have HOK : Hid (t.toList.isEmpty = false) := hok
  have H48 : Hid ((((t[0]'hp).toNat : Int) == 48) = false ∨ ((((t[0]'hp).toNat : Int) == 48) = true ∧ (s.toList == [48]) = true)) := h48
  clear hx0 hok h48
  go_enter Tryz.func60, Tryz.ntmps60
  go_upto_region 2 with fail
  go_cut [20] (fun s20 wx => s20 = .bool neg ∧ w = wx)
  case first =>
    cases neg
    · obtain ⟨_, h | ⟨h, hq, h2⟩⟩ := hpos rfl
      · clear hneg hpos
        go_wp2_with fail
        go_meet
        case rel => exact ⟨rfl, rfl⟩
      · clear hneg hpos
        go_wp2_with fail
        go_meet
        case rel => exact ⟨rfl, rfl⟩
    · obtain ⟨h, _, _, hq, h2⟩ := hneg rfl
      clear hneg hpos
      go_wp2_with fail
      go_meet
      case rel => exact ⟨rfl, rfl⟩
  case rest =>
  obtain ⟨rfl, rfl⟩ := hcut
  go_upto_if 20 with fail
  go_cut [6] (fun s6 wx => s6 = .string t ∧ w = wx)
  case first =>
    cases neg
    · obtain ⟨rfl, _⟩ := hpos rfl
      clear hneg hpos
      go_wp2_with fail
      go_meet
      case rel => exact ⟨rfl, rfl⟩
    · obtain ⟨h, h3, h4, hq, h2⟩ := hneg rfl
      have H3 : Hid (t = s.extract 1 s.size) := h3
      clear hneg hpos h3
      go_wp2_with fail
      go_meet
      case rel => exact ⟨by rw [H3.out], rfl⟩
  case rest =>
  obtain ⟨rfl, rfl⟩ := hcut
  have HL : Hid (neg = false → t.size = s.size) := fun h => by rw [(hpos h).1]
  have HL2 : Hid (neg = true → t.size + 1 = s.size) := fun h => (hneg h).2.2.1
  clear hpos hneg
  go_upto_region 4 with fail
  go_cut [33] (fun s33 wx => s33 = .bool false ∧ w = wx)
  case first =>
    have hok := HOK.out
    rcases H48.out with h48 | ⟨h48, h48b⟩
    · go_wp2_with fail
      go_meet
      case rel => exact ⟨by simp, rfl⟩
    · go_wp2_with fail
      go_meet
      case rel => exact ⟨by simp, rfl⟩
  case rest =>
  obtain ⟨rfl, rfl⟩ := hcut
  clear HOK H48
  have hn0 := BigInt.new w 53
  go_upto_region 6 with fail
  go_cut [7] (fun s7 wx => ∃ bn, s7 = ptr bn ∧ w.heap.size ≤ bn ∧ BigInt wx bn false 0 ∧ Below w.heap.size w wx)
  case first =>
    go_wp2_with fail
    go_meet
    case rel => exact ⟨_, rfl, Nat.le_refl _, hn0, (Below.refl _ _).alloc (Nat.le_refl _) _⟩
  case rest =>
  clear hn0
  obtain ⟨bn, rfl, hbn, hZ, hB⟩ := hcut
  go_wp2_with fail
  go_loopw [8] (fun i wr => ∃ k : Nat, k ≤ t.size ∧ i = .int .i64 k ∧ (t.data.toList.take k).all dig = true ∧ BigInt wr bn false (dv (t.data.toList.take k)) ∧ Below w.heap.size w wr) (fun i _ => t.size - (intOf i).toNat)
  case atStart => exact ⟨0, Nat.zero_le _, rfl, by simp, by simpa [dv] using hZ, hB⟩
  case round =>
    clear hZ hB
    obtain ⟨k, hk, rfl, hall, hZ, hB⟩ := hrel
    by_cases hlt : k < t.size
    · have HT := take_snoc t k hlt
      have HTk : Hid (t.data.toList.take (k + 1) = t.data.toList.take k ++ [t[k]]) := HT
      have HAll : Hid ((t.data.toList.take k).all dig = true) := hall
      have hx := dv_lt _ hall
      have hlen : (t.data.toList.take k).length ≤ k := List.length_take_le _ _
      have hxk : dv (t.data.toList.take k) < 10 ^ k := Nat.lt_of_lt_of_le hx (Nat.pow_le_pow_right (by decide) hlen)
      have HS1 : Hid (Small (dv (t.data.toList.take k))) := small_of hxk (by omega)
      have HS2 : Hid (Small (dv (t.data.toList.take k) * 10)) := small_of (i := k + 1) (by rw [Nat.pow_succ]; omega) (by omega)
      have hbl := byte_lt t[k]
      clear HT hall hx hlen hxk
      by_cases d1 : ((t[k].toNat : Nat) : Int) < 48
      · have HNo : Hid (wRes neg t.data.toList = 0 ∧ wOk neg t.data.toList = false) := w_no hlt (by unfold dig; rw [decide_eq_false (by omega)]; rfl)
        clear HTk HAll HS1 HS2
        go_wp2_with fail
        go_ret2
        exact ⟨by rw [HNo.out.1, HNo.out.2]; rfl, hB⟩
      · by_cases d2 : (57 : Int) < ((t[k].toNat : Nat) : Int)
        · have HNo : Hid (wRes neg t.data.toList = 0 ∧ wOk neg t.data.toList = false) := w_no hlt (by unfold dig; rw [decide_eq_false (by omega : ¬ t[k].toNat ≤ 57)]; simp)
          clear HTk HAll HS1 HS2
          go_wp2_with fail
          go_ret2
          exact ⟨by rw [HNo.out.1, HNo.out.2]; rfl, hB⟩
        · go_wp2_with fail
          refine (newInt_nn 10 _ (by omega)).mono ?_
          rintro e w1 ⟨⟨b1, rfl, hb1, hT1⟩, q1⟩
          have hZ1 := hZ.below q1
          go_wp2_with fail
          refine (mul10 bn _ _ hZ1 b1 hT1 HS1.out).mono ?_
          rintro e w2 ⟨rfl, hZ2, q2⟩
          go_wp2_with fail
          rw [show (((t[k].toNat : Nat) : Int) - 48) = ((t[k].toNat - 48 : Nat) : Int) from by omega]
          refine (newInt_nn (t[k].toNat - 48) _ (by omega)).mono ?_
          rintro e w3 ⟨⟨b3, rfl, hb3, hT3⟩, q3⟩
          have hZ3 := hZ2.below q3
          go_wp2_with fail
          refine (addM bn b3 _ _ _ hZ3 hT3 HS2.out (by omega)).mono ?_
          rintro e w4 ⟨rfl, hZ4, q4⟩
          have HD : Hid (dig t[k] = true) := by
            unfold Hid dig
            rw [decide_eq_true (by omega : 48 ≤ t[k].toNat), decide_eq_true (by omega : t[k].toNat ≤ 57)]
            rfl
          have hB4 : Below w.heap.size w w4 := ((bnext hB q1 hB.size).trans (q2 _ hbn)).trans ((q3.mono (by have := hB.size; have := q1.size; have := (q2 0 (Nat.zero_le _)).size; omega)).trans (q4 _ hbn))
          go_wp2_with fail
          exact ⟨⟨k + 1, by omega, by go_num, by rw [HTk.out, List.all_append, HAll.out]; simp [HD.out], by rw [HTk.out, dv_snoc]; exact hZ4, hB4⟩, by simp [intOf]; omega⟩
    · have hkn : k = t.size := by omega
      subst hkn
      have htk : t.data.toList.take t.size = t.data.toList := List.take_of_length_le (by simp)
      rw [htk] at hall hZ
      clear htk
      have HAll : Hid (t.data.toList.all dig = true) := hall
      clear hall
      generalize hxx : dv t.data.toList = x at *
      have HXX : Hid (dv t.data.toList = x) := hxx
      clear hxx
      cases neg
      · have hl := HL.out rfl
        have hne : ((t.size : Int) != (s.size : Int)) = false := by simp [hl]
        clear hl HL HL2 HX0
        go_wp2_with fail
        refine (fits_any bn x false _ hZ).mono ?_
        rintro e w5 ⟨rfl, rfl⟩
        cases hf : fitI false x
        · have HR : Hid (wRes false t.data.toList = 0 ∧ wOk false t.data.toList = false) := by
            unfold Hid wRes wOk wAns
            rw [HAll.out, HXX.out, hf]
            simp
          clear hf
          go_wp2_with fail
          go_ret2
          exact ⟨by rw [HR.out.1, HR.out.2]; rfl, hB⟩
        · have HR : Hid (wRes false t.data.toList = (x : Int) ∧ wOk false t.data.toList = true) := by
            unfold Hid wRes wOk wAns
            rw [HAll.out, HXX.out, hf]
            simp
          have hfx := fit_iff.1 hf
          clear hf
          go_wp2_with fail
          refine (int64_pos bn x _ hZ (by simp at hfx; omega)).mono ?_
          rintro e w6 ⟨rfl, rfl⟩
          go_wp2_with fail
          go_ret2
          exact ⟨by rw [HR.out.1, HR.out.2]; rfl, hB⟩
      · have hl := HL2.out rfl
        have hne : ((t.size : Int) != (s.size : Int)) = true := by rw [bne_iff_ne]; omega
        have hxz : x ≠ 0 := HX0.out rfl HAll.out
        have hsg : (!false && decide (x ≠ 0)) = true := by simp [hxz]
        clear hl HL HL2 HX0
        go_wp2_with fail
        refine (negM bn x false _ hZ).mono ?_
        rintro e w4 ⟨rfl, hZ4, q4⟩
        rw [hsg] at hZ4
        have hB4 : Below w.heap.size w w4 := hB.trans (q4 _ hbn)
        clear hsg
        go_wp2_with fail
        refine (fits_any bn x true _ hZ4).mono ?_
        rintro e w5 ⟨rfl, rfl⟩
        cases hf : fitI true x
        · have HR : Hid (wRes true t.data.toList = 0 ∧ wOk true t.data.toList = false) := by
            unfold Hid wRes wOk wAns
            rw [HAll.out, HXX.out, hf]
            simp
          clear hf
          go_wp2_with fail
          go_ret2
          exact ⟨by rw [HR.out.1, HR.out.2]; rfl, hB4⟩
        · have HR : Hid (wRes true t.data.toList = -(x : Int) ∧ wOk true t.data.toList = true) := by
            unfold Hid wRes wOk wAns
            rw [HAll.out, HXX.out, hf]
            simp
          have hfx := fit_iff.1 hf
          clear hf
          go_wp2_with fail
          refine (int64_neg bn x _ hZ4 (by omega)).mono ?_
          rintro e w6 ⟨rfl, rfl⟩
          go_wp2_with fail
          go_ret2
          exact ⟨by rw [HR.out.1, HR.out.2]; rfl, hB4⟩
set_option maxRecDepth 100000 in
set_option maxHeartbeats 4000000 in
theorem whole_bad (s t : ByteArray) (neg : Bool) (w : World) (hs : s.size ≤ 140737488355328) (ht : t.size ≤ s.size)
    (hneg : neg = true → s.toList.isEmpty = false ∧ t = s.extract 1 s.size ∧ t.size + 1 = s.size ∧ ∃ hp : 0 < s.size, ((((s[0]'hp).toNat : Nat) : Int) == 45) = true)
    (hpos : neg = false → t = s ∧ (s.toList.isEmpty = true ∨ (s.toList.isEmpty = false ∧ ∃ hp : 0 < s.size, ((((s[0]'hp).toNat : Nat) : Int) == 45) = false)))
    (hbad : t.toList.isEmpty = true ∨ (t.toList.isEmpty = false ∧ (∃ hp : 0 < t.size, (((t[0]'hp).toNat : Int) == 48) = true) ∧ (s.toList == [48]) = false)) :
    Calls Tryz.prog 60 #[.string s, .bool true] w fun e w' => e = .returned (.tuple #[.int .i64 0, .bool false]) ∧ Below w.heap.size w w' := by
  have HBad : Hid (t.toList.isEmpty = true ∨ (t.toList.isEmpty = false ∧ (∃ hp : 0 < t.size, (((t[0]'hp).toNat : Int) == 48) = true) ∧ (s.toList == [48]) = false)) := hbad
  clear hbad
  go_enter Tryz.func60, Tryz.ntmps60
  go_upto_region 2 with fail
  go_cut [20] (fun s20 wx => s20 = .bool neg ∧ w = wx)
  case first =>
    cases neg
    · obtain ⟨_, h | ⟨h, hq, h2⟩⟩ := hpos rfl
      · clear hneg hpos
        go_wp2_with fail
        go_meet
        case rel => exact ⟨rfl, rfl⟩
      · clear hneg hpos
        go_wp2_with fail
        go_meet
        case rel => exact ⟨rfl, rfl⟩
    · obtain ⟨h, _, _, hq, h2⟩ := hneg rfl
      clear hneg hpos
      go_wp2_with fail
      go_meet
      case rel => exact ⟨rfl, rfl⟩
  case rest =>
  obtain ⟨rfl, rfl⟩ := hcut
  go_upto_if 20 with fail
  go_cut [6] (fun s6 wx => s6 = .string t ∧ w = wx)
  case first =>
    cases neg
    · obtain ⟨rfl, _⟩ := hpos rfl
      clear hneg hpos
      go_wp2_with fail
      go_meet
      case rel => exact ⟨rfl, rfl⟩
    · obtain ⟨h, h3, h4, hq, h2⟩ := hneg rfl
      have H3 : Hid (t = s.extract 1 s.size) := h3
      clear hneg hpos h3
      go_wp2_with fail
      go_meet
      case rel => exact ⟨by rw [H3.out], rfl⟩
  case rest =>
  obtain ⟨rfl, rfl⟩ := hcut
  clear hpos hneg
  rcases HBad.out with h | ⟨h, ⟨hp, h48⟩, h3⟩
  · clear HBad
    go_wp2_with fail
    go_ret2
    exact ⟨rfl, Below.refl _ _⟩
  · clear HBad
    go_wp2_with fail
    go_ret2
    exact ⟨rfl, Below.refl _ _⟩
theorem size_pos {s : ByteArray} (h : s.toList.isEmpty = false) : 0 < s.size := by
  rcases Nat.eq_zero_or_pos s.size with q | q
  · have : s.data.toList = [] := List.length_eq_zero_iff.1 (by rw [Array.length_toList]; exact q)
    rw [ByteArray.toList_eq, this] at h
    cases h
  · exact q
theorem head_byte {s : ByteArray} (hp : 0 < s.size) : s.data.toList.head? = some (s[0]'hp) := by
  rw [List.head?_eq_getElem?, List.getElem?_eq_getElem (by rw [Array.length_toList]; exact hp)]
  rfl
theorem byte_beq {c : UInt8} {n : Nat} (hn : n < 256) : (((c.toNat : Nat) : Int) == (n : Int)) = decide (c = UInt8.ofNat n) := by
  rw [Bool.eq_iff_iff, beq_iff_eq, decide_eq_true_iff]
  constructor
  · intro e
    apply UInt8.toNat_inj.1
    rw [UInt8.toNat_ofNat']
    omega
  · rintro rfl
    rw [UInt8.toNat_ofNat']
    omega
/-- WHOLE: what the reference reads of any text that is not empty. -/
theorem whole_any (s : ByteArray) (w : World) (hs : s.size ≤ 140737488355328) (hne : s.toList.isEmpty = false) :
    Calls Tryz.prog 60 #[.string s, .bool true] w fun e w' => e = .returned (.tuple #[.int .i64 ((wholeL s.data.toList).getD 0), .bool (wholeL s.data.toList).isSome]) ∧ Below w.heap.size w w' := by
  have hp := size_pos hne
  have hh := head_byte hp
  have h45 := byte_beq (c := s[0]'hp) (n := 45) (by decide)
  obtain ⟨neg, hn⟩ : ∃ neg, neg = decide (s[0]'hp = UInt8.ofNat 45) := ⟨_, rfl⟩
  obtain ⟨t, ht⟩ : ∃ t, t = (if neg = true then s.extract 1 s.size else s) := ⟨_, rfl⟩
  have hdec : decide (s.data.toList.head? = some 45) = neg := by
    rw [hn, hh]
    exact decide_eq_decide.2 ⟨fun e => by injection e, fun e => by rw [e]; rfl⟩
  have htl : t.data.toList = behind s.data.toList := by
    unfold behind
    cases neg
    · rw [ht, if_neg (by simp), if_neg (by simpa using hdec)]
    · rw [ht, if_pos rfl, if_pos (by simpa using hdec), Lib.extract_to_end]
      simp
  have hts : t.size ≤ s.size ∧ (neg = true → t.size + 1 = s.size) := by
    cases neg
    · rw [ht, if_neg (by simp)]; simp
    · rw [ht, if_pos rfl]; simp; omega
  have hneg : neg = true → s.toList.isEmpty = false ∧ t = s.extract 1 s.size ∧ t.size + 1 = s.size ∧ ∃ hp : 0 < s.size, ((((s[0]'hp).toNat : Nat) : Int) == 45) = true := by
    intro e
    refine ⟨hne, by rw [ht, if_pos e], hts.2 e, hp, ?_⟩
    rw [← e, hn]; exact h45
  have hpos : neg = false → t = s ∧ (s.toList.isEmpty = true ∨ (s.toList.isEmpty = false ∧ ∃ hp : 0 < s.size, ((((s[0]'hp).toNat : Nat) : Int) == 45) = false)) := by
    intro e
    refine ⟨by rw [ht, if_neg (by simp [e])], Or.inr ⟨hne, hp, ?_⟩⟩
    rw [← e, hn]; exact h45
  by_cases b1 : behind s.data.toList = [] ∨ ((behind s.data.toList).head? = some 48 ∧ s.data.toList ≠ [48])
  · have hw : wholeL s.data.toList = none := by unfold wholeL; rw [if_pos b1]
    rw [hw]
    refine whole_bad s t neg w hs hts.1 hneg hpos ?_
    rw [← htl] at b1
    cases hte : t.toList.isEmpty
    · right
      have htp := size_pos hte
      have hnil : t.data.toList ≠ [] := by
        intro q
        rw [ByteArray.toList_eq, q] at hte
        cases hte
      rcases b1 with b1 | ⟨b1, b2⟩
      · exact absurd b1 hnil
      · refine ⟨rfl, ⟨htp, ?_⟩, ?_⟩
        · rw [head_byte htp] at b1
          injection b1 with b1
          rw [b1]; rfl
        · rw [ByteArray.toList_eq]; exact beq_eq_false_iff_ne.2 b2
    · exact Or.inl rfl
  · have hnil : t.data.toList ≠ [] := by rw [htl]; exact fun q => b1 (Or.inl q)
    have hte : t.toList.isEmpty = false := by
      rw [ByteArray.toList_eq]
      cases h : t.data.toList with
      | nil => exact absurd h hnil
      | cons a r => rfl
    have htp := size_pos hte
    have h48 : (((t[0]'htp).toNat : Int) == 48) = false ∨ ((((t[0]'htp).toNat : Int) == 48) = true ∧ (s.toList == [48]) = true) := by
      have hb := byte_beq (c := t[0]'htp) (n := 48) (by decide)
      by_cases q : t[0]'htp = UInt8.ofNat 48
      · right
        refine ⟨by rw [show ((48 : Int)) = ((48 : Nat) : Int) from rfl, hb, decide_eq_true q], ?_⟩
        rw [ByteArray.toList_eq, beq_iff_eq]
        apply Classical.byContradiction
        intro r
        apply b1
        refine Or.inr ⟨?_, r⟩
        rw [← htl, head_byte htp, q]
        rfl
      · left
        rw [show ((48 : Int)) = ((48 : Nat) : Int) from rfl, hb, decide_eq_false q]
    have hx0 : neg = true → t.data.toList.all dig = true → dv t.data.toList ≠ 0 := by
      intro e hall
      have hcn : canon t.data.toList := ⟨hall, hnil, fun q => by
        exfalso
        apply b1
        rw [← htl]
        refine Or.inr ⟨q, ?_⟩
        intro r
        rw [e] at hdec
        rw [r] at hdec
        simp at hdec⟩
      have h48n : t.data.toList ≠ [48] := by
        intro q
        apply b1
        rw [← htl, q]
        refine Or.inr ⟨rfl, ?_⟩
        intro r
        rw [e] at hdec
        rw [r] at hdec
        simp at hdec
      have := dv_pos _ hcn h48n
      omega
    have key : (wRes neg t.data.toList = (wholeL s.data.toList).getD 0) ∧ (wOk neg t.data.toList = (wholeL s.data.toList).isSome) := by
      unfold wholeL
      rw [if_neg b1, ← htl, hdec]
      unfold wRes wOk wAns
      cases hall : t.data.toList.all dig
      · simp
      · cases hf : fitI neg (dv t.data.toList)
        · simp
        · cases neg
          · have : ¬ s.data.toList.head? = some 45 := by simpa using hdec
            simp [this]
          · have : s.data.toList.head? = some 45 := by simpa using hdec
            simp [this]
    rw [← key.1, ← key.2]
    exact whole_go s t neg w hs hts.1 hneg hpos hte htp h48 hx0
end Go.Proofs.YtgoadofnfaidcaaGreatDoor
