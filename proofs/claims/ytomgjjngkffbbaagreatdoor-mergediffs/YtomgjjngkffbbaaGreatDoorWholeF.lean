
/- Plain facts on digits: what a row of digits comes to, and that a numeral without a needless nought is the number's own. Nothing is walked here. -/
import Derived.Test.YtomgjjngkffbbaaGreatDoorNum
import Derived.Test.YtomgjjngkffbbaaGreatDoorInt
import Derived.Test.YtomgjjngkffbbaaGreatDoorIsInt
import Derived.Test.YtomgjjngkffbbaaGreatDoorIntMul
import Derived.Test.YtomgjjngkffbbaaGreatDoorIntAdd
import Derived.Test.YtomgjjngkffbbaaGreatDoorNeg
import Derived.Deep.DeepCutAuto
import Derived.Lib.IndexBytes
namespace Go.Proofs.YtomgjjngkffbbaaGreatDoor
open Go.Lib
/-- Is a byte a digit? -/
def dig (c : UInt8) : Bool := decide (48 ≤ c.toNat) && decide (c.toNat ≤ 57)
/-- What digits come to. -/
def dv (l : List UInt8) : Nat := l.foldl (fun a c => a * 10 + (c.toNat - 48)) 0
theorem dv_snoc (l : List UInt8) (c : UInt8) : dv (l ++ [c]) = dv l * 10 + (c.toNat - 48) := by simp [dv]
theorem dv_nil : dv [] = 0 := rfl
theorem rev_ind {P : List UInt8 → Prop} (h0 : P []) (h1 : ∀ l c, P l → P (l ++ [c])) (l : List UInt8) : P l := by
  have : ∀ r : List UInt8, P r.reverse := by
    intro r
    induction r with
    | nil => exact h0
    | cons c r ih => rw [List.reverse_cons]; exact h1 _ _ ih
  have h := this l.reverse
  rwa [List.reverse_reverse] at h
theorem dv_lt (l : List UInt8) : l.all dig = true → dv l < 10 ^ l.length := by
  refine rev_ind (P := fun l => l.all dig = true → dv l < 10 ^ l.length) ?_ ?_ l
  · intro _; decide
  · intro l c ih h
    rw [List.all_append, Bool.and_eq_true] at h
    have h1 := ih h.1
    have h2 : 48 ≤ c.toNat ∧ c.toNat ≤ 57 := by
      have := h.2
      simp [dig] at this
      exact this
    rw [dv_snoc, List.length_append, List.length_singleton, Nat.pow_succ]
    omega
theorem small_of {x i : Nat} (hx : x < 10 ^ i) (hi : i ≤ 140737488355329) : Small x := by
  intro n f hN hv
  match n, hN, hv with
  | 0, _, _ => omega
  | n + 1, hN, hv =>
    have h1 : W32 ^ n ≤ valN (n + 1) f := valN_ge (hN n rfl)
    have h2 : (10 ^ 9) ^ n ≤ W32 ^ n := Nat.pow_le_pow_left (by decide) n
    rw [← Nat.pow_mul] at h2
    have h3 : 10 ^ (9 * n) < 10 ^ i := by omega
    have h4 := (Nat.pow_lt_pow_iff_right (by decide : 1 < 10)).1 h3
    omega
/-- A numeral without a needless nought. -/
def canon (l : List UInt8) : Prop := l.all dig = true ∧ l ≠ [] ∧ (l.head? = some 48 → l = [48])
theorem dv_pos (l : List UInt8) : canon l → l ≠ [48] → 0 < dv l := by
  refine rev_ind (P := fun l => canon l → l ≠ [48] → 0 < dv l) ?_ ?_ l
  · rintro ⟨_, h, _⟩; exact absurd rfl h
  · intro l c ih ⟨h1, h2, h3⟩ h4
    rw [List.all_append, Bool.and_eq_true] at h1
    have hc : 48 ≤ c.toNat ∧ c.toNat ≤ 57 := by
      have := h1.2
      simp [dig] at this
      exact this
    rw [dv_snoc]
    by_cases hl : l = []
    · subst hl
      have : c ≠ 48 := by
        rintro rfl
        exact h4 rfl
      have hne : c.toNat ≠ 48 := by
        intro e
        apply this
        exact UInt8.toNat_inj.1 (by rw [e]; rfl)
      simp [dv]
      omega
    · have hh : l.head? ≠ some 48 := by
        intro e
        have := h3 (by rw [List.head?_append, e]; rfl)
        have hlen := congrArg List.length this
        simp at hlen
        exact hl hlen
      have := ih ⟨h1.1, hl, fun e => absurd e hh⟩ (by intro e; rw [e] at hh; exact hh rfl)
      omega
theorem dec_dv (l : List UInt8) : canon l → decDigits (dv l) = l := by
  refine rev_ind (P := fun l => canon l → decDigits (dv l) = l) ?_ ?_ l
  · rintro ⟨_, h, _⟩; exact absurd rfl h
  · intro l c ih ⟨h1, h2, h3⟩
    rw [List.all_append, Bool.and_eq_true] at h1
    have hc : 48 ≤ c.toNat ∧ c.toNat ≤ 57 := by
      have := h1.2
      simp [dig] at this
      exact this
    have hb : UInt8.ofNat (48 + (c.toNat - 48)) = c := by
      rw [show 48 + (c.toNat - 48) = c.toNat from by omega]
      exact UInt8.ofNat_toNat
    rw [dv_snoc]
    by_cases hl : l = []
    · subst hl
      rw [dv_nil, Nat.zero_mul, Nat.zero_add, decDigits_one (by omega), hb]
      rfl
    · have hh : l.head? ≠ some 48 := by
        intro e
        have := h3 (by rw [List.head?_append, e]; rfl)
        have hlen := congrArg List.length this
        simp at hlen
        exact hl hlen
      have hcn : canon l := ⟨h1.1, hl, fun e => absurd e hh⟩
      have hp := dv_pos l hcn (by intro e; rw [e] at hh; exact hh rfl)
      rw [decDigits, dif_neg (by omega), show (dv l * 10 + (c.toNat - 48)) / 10 = dv l from by omega, show (dv l * 10 + (c.toNat - 48)) % 10 = c.toNat - 48 from by omega, ih hcn, hb]
/-- A number's digits come to it, and bear no needless nought. -/
theorem dv_dec (u : Nat) : dv (decDigits u) = u ∧ canon (decDigits u) := by
  induction u using Nat.strongRecOn with
  | _ u ih =>
    by_cases c : u < 10
    · rw [decDigits_one c]
      refine ⟨by simp [dv]; omega, ?_, by simp, ?_⟩
      · simp [dig]; omega
      · intro e
        rw [List.head?_cons] at e
        injection e with e
        rw [e]
    · obtain ⟨h1, h2, h3, h4⟩ := ih (u / 10) (by omega)
      have e : decDigits u = decDigits (u / 10) ++ [UInt8.ofNat (48 + u % 10)] := by rw [decDigits, dif_neg c]
      have hd : u % 10 < 10 := by omega
      rw [e]
      refine ⟨by rw [dv_snoc, h1, digit_nat hd]; omega, ?_, by simp, ?_⟩
      · rw [List.all_append, h2]; simp [dig]; omega
      · intro q
        rw [List.head?_append] at q
        have : (decDigits (u / 10)).head? = some 48 := by
          cases hh : (decDigits (u / 10)).head? with
          | none => rw [List.head?_eq_none_iff] at hh; exact absurd hh h3
          | some a => rw [hh] at q; exact q
        have h5 := h4 this
        rw [h5] at h1
        have : u / 10 = 0 := by rw [← h1]; rfl
        omega
end Go.Proofs.YtomgjjngkffbbaaGreatDoor
/- Whole, as the reference reads a number without a sign of its digits: what it returns, for every text. Conditions: the text has at most 2^47 bytes. -/
namespace Go.Proofs.YtomgjjngkffbbaaGreatDoor
open Go.RowKit
theorem fit_iff {neg : Bool} {x : Nat} : fitI neg x = true ↔ x < 9223372036854775808 ∨ (neg = true ∧ x = 9223372036854775808) := by
  unfold fitI
  simp
set_option maxHeartbeats 1000000 in
theorem fits_any (bz x : Nat) (neg : Bool) (w : World) (hz : BigInt w bz neg x) :
    Calls Tryz.prog 120 #[ptr bz] w fun e w' => e = .returned (.bool (fitI neg x)) ∧ w' = w := by
  go_enter Tryz.func120, Tryz.ntmps120
  go_wp2_with fail
  refine (isInt_any bz x neg _ hz).mono ?_
  rintro e w1 ⟨rfl, rfl⟩
  go_wp2_with fail
  go_ret
  exact ⟨rfl, rfl⟩
theorem take_snoc (t : ByteArray) (k : Nat) (h : k < t.size) : t.data.toList.take (k + 1) = t.data.toList.take k ++ [t[k]] := by
  rw [List.take_succ_eq_append_getElem (by simpa using h)]; rfl
theorem byte_lt (c : UInt8) : c.toNat < 256 := UInt8.toNat_lt c
/-- n times 10, and a digit. -/
theorem mul10 (bz x : Nat) (w : World) (hz : BigInt w bz false x) (b2 : Nat) (hy : BigInt w b2 false 10) (hs : Small x) :
    Calls Tryz.prog 116 #[ptr bz, ptr bz, ptr b2] w fun e w' => e = .returned (ptr bz) ∧ BigInt w' bz false (x * 10) ∧ ∀ B, B ≤ bz → Below B w w' :=
  mulM bz b2 x 10 false false w hz hy hs (by omega)
/-- What the text behind the sign says of the answer. -/
def wAns (neg : Bool) (x : Nat) : Int := if fitI neg x = true then (if neg = true then -(x : Int) else (x : Int)) else 0
def wRes (neg : Bool) (l : List UInt8) : Int := if l.all dig = true then wAns neg (dv l) else 0
def wOk (neg : Bool) (l : List UInt8) : Bool := l.all dig && fitI neg (dv l)
theorem w_no {neg : Bool} {t : ByteArray} {k : Nat} (hlt : k < t.size) (h : dig t[k] = false) : wRes neg t.data.toList = 0 ∧ wOk neg t.data.toList = false := by
  have : t.data.toList.all dig = false := by
    rw [List.all_eq_false]
    exact ⟨t[k], Array.mem_toList_iff.2 (Array.getElem_mem (xs := t.data) hlt), by simp [h]⟩
  unfold wRes wOk
  rw [this]
  exact ⟨if_neg (by simp), by simp⟩
set_option maxRecDepth 100000 in
set_option maxHeartbeats 4000000 in
theorem wholeF_go (s : ByteArray) (w : World) (hs : s.size ≤ 140737488355328)
    (hok : s.toList.isEmpty = false) (hp : 0 < s.size) (h48 : (((s[0]'hp).toNat : Int) == 48) = false ∨ ((((s[0]'hp).toNat : Int) == 48) = true ∧ (s.toList == [48]) = true)) :
    Calls Tryz.prog 94 #[.string s, .bool false] w fun e w' => e = .returned (.tuple #[.int .i64 (wRes false s.data.toList), .bool (wOk false s.data.toList)]) ∧ Below w.heap.size w w' := by
  have HOK : Hid (s.toList.isEmpty = false) := hok
  have H48 : Hid ((((s[0]'hp).toNat : Int) == 48) = false ∨ ((((s[0]'hp).toNat : Int) == 48) = true ∧ (s.toList == [48]) = true)) := h48
  clear hok h48
  go_enter Tryz.func94, Tryz.ntmps94
  go_upto_region 2 with fail
  go_cut [20] (fun s20 wx => s20 = .bool false ∧ w = wx)
  case first =>
    go_wp2_with fail
    go_meet
    case rel => exact ⟨rfl, rfl⟩
  case rest =>
  obtain ⟨rfl, rfl⟩ := hcut
  go_upto_region 4 with fail
  go_cut [33] (fun s33 wx => s33 = .bool false ∧ w = wx)
  case first =>
    have hok := HOK.out
    rcases H48.out with h48 | ⟨h48, h48b⟩
    · go_wp2_with fail
      go_meet
      case rel => exact ⟨by simp, rfl⟩
    · go_wp2_with fail
      go_meet
      case rel => exact ⟨by simp, rfl⟩
  case rest =>
  obtain ⟨rfl, rfl⟩ := hcut
  clear HOK H48
  have hn0 := BigInt.new w 193
  go_upto_region 6 with fail
  go_cut [7] (fun s7 wx => ∃ bn, s7 = ptr bn ∧ w.heap.size ≤ bn ∧ BigInt wx bn false 0 ∧ Below w.heap.size w wx)
  case first =>
    go_wp2_with fail
    go_meet
    case rel => exact ⟨_, rfl, Nat.le_refl _, hn0, (Below.refl _ _).alloc (Nat.le_refl _) _⟩
  case rest =>
  clear hn0
  obtain ⟨bn, rfl, hbn, hZ, hB⟩ := hcut
  go_wp2_with fail
  go_loopw [8] (fun i wr => ∃ k : Nat, k ≤ s.size ∧ i = .int .i64 k ∧ (s.data.toList.take k).all dig = true ∧ BigInt wr bn false (dv (s.data.toList.take k)) ∧ Below w.heap.size w wr) (fun i _ => s.size - (intOf i).toNat)
  case atStart => exact ⟨0, Nat.zero_le _, rfl, by simp, by simpa [dv] using hZ, hB⟩
  case round =>
    clear hZ hB
    obtain ⟨k, hk, rfl, hall, hZ, hB⟩ := hrel
    by_cases hlt : k < s.size
    · have HT := take_snoc s k hlt
      have HTk : Hid (s.data.toList.take (k + 1) = s.data.toList.take k ++ [s[k]]) := HT
      have HAll : Hid ((s.data.toList.take k).all dig = true) := hall
      have hx := dv_lt _ hall
      have hlen : (s.data.toList.take k).length ≤ k := List.length_take_le _ _
      have hxk : dv (s.data.toList.take k) < 10 ^ k := Nat.lt_of_lt_of_le hx (Nat.pow_le_pow_right (by decide) hlen)
      have HS1 : Hid (Small (dv (s.data.toList.take k))) := small_of hxk (by omega)
      have HS2 : Hid (Small (dv (s.data.toList.take k) * 10)) := small_of (i := k + 1) (by rw [Nat.pow_succ]; omega) (by omega)
      have hbl := byte_lt s[k]
      clear HT hall hx hlen hxk
      by_cases d1 : ((s[k].toNat : Nat) : Int) < 48
      · have HNo : Hid (wRes false s.data.toList = 0 ∧ wOk false s.data.toList = false) := w_no hlt (by unfold dig; rw [decide_eq_false (by omega)]; rfl)
        clear HTk HAll HS1 HS2
        go_wp2_with fail
        go_ret2
        exact ⟨by rw [HNo.out.1, HNo.out.2]; rfl, hB⟩
      · by_cases d2 : (57 : Int) < ((s[k].toNat : Nat) : Int)
        · have HNo : Hid (wRes false s.data.toList = 0 ∧ wOk false s.data.toList = false) := w_no hlt (by unfold dig; rw [decide_eq_false (by omega : ¬ s[k].toNat ≤ 57)]; simp)
          clear HTk HAll HS1 HS2
          go_wp2_with fail
          go_ret2
          exact ⟨by rw [HNo.out.1, HNo.out.2]; rfl, hB⟩
        · go_wp2_with fail
          refine (newInt_nn 10 _ (by omega)).mono ?_
          rintro e w1 ⟨⟨b1, rfl, hb1, hT1⟩, q1⟩
          have hZ1 := hZ.below q1
          go_wp2_with fail
          refine (mul10 bn _ _ hZ1 b1 hT1 HS1.out).mono ?_
          rintro e w2 ⟨rfl, hZ2, q2⟩
          go_wp2_with fail
          rw [show (((s[k].toNat : Nat) : Int) - 48) = ((s[k].toNat - 48 : Nat) : Int) from by omega]
          refine (newInt_nn (s[k].toNat - 48) _ (by omega)).mono ?_
          rintro e w3 ⟨⟨b3, rfl, hb3, hT3⟩, q3⟩
          have hZ3 := hZ2.below q3
          go_wp2_with fail
          refine (addM bn b3 _ _ _ hZ3 hT3 HS2.out (by omega)).mono ?_
          rintro e w4 ⟨rfl, hZ4, q4⟩
          have HD : Hid (dig s[k] = true) := by
            unfold Hid dig
            rw [decide_eq_true (by omega : 48 ≤ s[k].toNat), decide_eq_true (by omega : s[k].toNat ≤ 57)]
            rfl
          have hB4 : Below w.heap.size w w4 := ((bnext hB q1 hB.size).trans (q2 _ hbn)).trans ((q3.mono (by have := hB.size; have := q1.size; have := (q2 0 (Nat.zero_le _)).size; omega)).trans (q4 _ hbn))
          go_wp2_with fail
          exact ⟨⟨k + 1, by omega, by go_num, by rw [HTk.out, List.all_append, HAll.out]; simp [HD.out], by rw [HTk.out, dv_snoc]; exact hZ4, hB4⟩, by simp [intOf]; omega⟩
    · have hkn : k = s.size := by omega
      subst hkn
      have htk : s.data.toList.take s.size = s.data.toList := List.take_of_length_le (by simp)
      rw [htk] at hall hZ
      clear htk
      have HAll : Hid (s.data.toList.all dig = true) := hall
      clear hall
      generalize hxx : dv s.data.toList = x at *
      have HXX : Hid (dv s.data.toList = x) := hxx
      clear hxx
      have hne : ((s.size : Int) != (s.size : Int)) = false := by simp
      go_wp2_with fail
      refine (fits_any bn x false _ hZ).mono ?_
      rintro e w5 ⟨rfl, rfl⟩
      cases hf : fitI false x
      · have HR : Hid (wRes false s.data.toList = 0 ∧ wOk false s.data.toList = false) := by
          unfold Hid wRes wOk wAns
          rw [HAll.out, HXX.out, hf]
          simp
        clear hf
        go_wp2_with fail
        go_ret2
        exact ⟨by rw [HR.out.1, HR.out.2]; rfl, hB⟩
      · have HR : Hid (wRes false s.data.toList = (x : Int) ∧ wOk false s.data.toList = true) := by
          unfold Hid wRes wOk wAns
          rw [HAll.out, HXX.out, hf]
          simp
        have hfx := fit_iff.1 hf
        clear hf
        go_wp2_with fail
        refine (int64_pos bn x _ hZ (by simp at hfx; omega)).mono ?_
        rintro e w6 ⟨rfl, rfl⟩
        go_wp2_with fail
        go_ret2
        exact ⟨by rw [HR.out.1, HR.out.2]; rfl, hB⟩
set_option maxRecDepth 100000 in
set_option maxHeartbeats 4000000 in
theorem wholeF_bad (s : ByteArray) (w : World)
    (hbad : s.toList.isEmpty = true ∨ (s.toList.isEmpty = false ∧ (∃ hp : 0 < s.size, (((s[0]'hp).toNat : Int) == 48) = true) ∧ (s.toList == [48]) = false)) :
    Calls Tryz.prog 94 #[.string s, .bool false] w fun e w' => e = .returned (.tuple #[.int .i64 0, .bool false]) ∧ Below w.heap.size w w' := by
  rcases hbad with h | ⟨h, ⟨hp, h48⟩, h3⟩
  · go_enter Tryz.func94, Tryz.ntmps94
    go_wp2_with fail
    go_ret2
    exact ⟨rfl, Below.refl _ _⟩
  · go_enter Tryz.func94, Tryz.ntmps94
    go_wp2_with fail
    go_ret2
    exact ⟨rfl, Below.refl _ _⟩
theorem size_pos {s : ByteArray} (h : s.toList.isEmpty = false) : 0 < s.size := by
  rcases Nat.eq_zero_or_pos s.size with q | q
  · have : s.data.toList = [] := List.length_eq_zero_iff.1 (by rw [Array.length_toList]; exact q)
    rw [ByteArray.toList_eq, this] at h
    cases h
  · exact q
theorem head_byte {s : ByteArray} (hp : 0 < s.size) : s.data.toList.head? = some (s[0]'hp) := by
  rw [List.head?_eq_getElem?, List.getElem?_eq_getElem (by rw [Array.length_toList]; exact hp)]
  rfl
theorem byte_beq {c : UInt8} {n : Nat} (hn : n < 256) : (((c.toNat : Nat) : Int) == (n : Int)) = decide (c = UInt8.ofNat n) := by
  rw [Bool.eq_iff_iff, beq_iff_eq, decide_eq_true_iff]
  constructor
  · intro e
    apply UInt8.toNat_inj.1
    rw [UInt8.toNat_ofNat']
    omega
  · rintro rfl
    rw [UInt8.toNat_ofNat']
    omega
/-- The whole number, without a sign, that a text is by the reference. -/
def wholeN (l : List UInt8) : Option Nat :=
  if l = [] ∨ (l.head? = some 48 ∧ l ≠ [48]) then none
  else if l.all dig = true then (if dv l < 9223372036854775808 then some (dv l) else none) else none
theorem wholeF_any (s : ByteArray) (w : World) (hs : s.size ≤ 140737488355328) :
    Calls Tryz.prog 94 #[.string s, .bool false] w fun e w' => e = .returned (.tuple #[.int .i64 ((wholeN s.data.toList).getD 0 : Nat), .bool (wholeN s.data.toList).isSome]) ∧ Below w.heap.size w w' := by
  by_cases b1 : s.data.toList = [] ∨ (s.data.toList.head? = some 48 ∧ s.data.toList ≠ [48])
  · have hw : wholeN s.data.toList = none := by unfold wholeN; rw [if_pos b1]
    rw [hw]
    refine wholeF_bad s w ?_
    cases hte : s.toList.isEmpty
    · right
      have htp := size_pos hte
      have hnil : s.data.toList ≠ [] := by
        intro q
        rw [ByteArray.toList_eq, q] at hte
        cases hte
      rcases b1 with b1 | ⟨b1, b2⟩
      · exact absurd b1 hnil
      · refine ⟨rfl, ⟨htp, ?_⟩, ?_⟩
        · rw [head_byte htp] at b1
          injection b1 with b1
          rw [b1]; rfl
        · rw [ByteArray.toList_eq]; exact beq_eq_false_iff_ne.2 b2
    · exact Or.inl rfl
  · have hnil : s.data.toList ≠ [] := fun q => b1 (Or.inl q)
    have hte : s.toList.isEmpty = false := by
      rw [ByteArray.toList_eq]
      cases h : s.data.toList with
      | nil => exact absurd h hnil
      | cons a r => rfl
    have htp := size_pos hte
    have h48 : (((s[0]'htp).toNat : Int) == 48) = false ∨ ((((s[0]'htp).toNat : Int) == 48) = true ∧ (s.toList == [48]) = true) := by
      have hb := byte_beq (c := s[0]'htp) (n := 48) (by decide)
      by_cases q : s[0]'htp = UInt8.ofNat 48
      · right
        refine ⟨by rw [show ((48 : Int)) = ((48 : Nat) : Int) from rfl, hb, decide_eq_true q], ?_⟩
        rw [ByteArray.toList_eq, beq_iff_eq]
        apply Classical.byContradiction
        intro r
        apply b1
        refine Or.inr ⟨?_, r⟩
        rw [head_byte htp, q]
        rfl
      · left
        rw [show ((48 : Int)) = ((48 : Nat) : Int) from rfl, hb, decide_eq_false q]
    have key : (wRes false s.data.toList = ((wholeN s.data.toList).getD 0 : Nat)) ∧ (wOk false s.data.toList = (wholeN s.data.toList).isSome) := by
      unfold wholeN
      rw [if_neg b1]
      unfold wRes wOk wAns
      cases hall : s.data.toList.all dig
      · simp
      · cases hf : fitI false (dv s.data.toList)
        · have hl : ¬ dv s.data.toList < 9223372036854775808 := by
            intro q
            rw [fit_iff.2 (Or.inl q)] at hf
            cases hf
          simp [hl]
        · have hl : dv s.data.toList < 9223372036854775808 := by
            rcases fit_iff.1 hf with q | ⟨q, _⟩
            · exact q
            · cases q
          simp [hl]
    rw [← key.1, ← key.2]
    exact wholeF_go s w hs hte htp h48
end Go.Proofs.YtomgjjngkffbbaaGreatDoor
