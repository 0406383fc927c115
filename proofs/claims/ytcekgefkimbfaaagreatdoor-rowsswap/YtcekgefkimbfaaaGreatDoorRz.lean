/- A word means the same to the program and to the reference. Condition: it has at most 200 bytes, all of them letters, digits or dollars. -/
import Derived.Test.YtcekgefkimbfaaaGreatDoorRo6
import Derived.Test.YtcekgefkimbfaaaGreatDoorRm3
import Derived.Test.YtcekgefkimbfaaaGreatDoorRk1
import Derived.Test.YtcekgefkimbfaaaGreatDoorRo3
import Derived.Test.YtcekgefkimbfaaaGreatDoorRo2
import Derived.Test.YtcekgefkimbfaaaGreatDoorRo4
import Derived.Test.YtcekgefkimbfaaaGreatDoorRo5
import Derived.Test.YtcekgefkimbfaaaGreatDoorRo7
namespace Go.Proofs.YtcekgefkimbfaaaGreatDoor.fm
open Go.RowKit
theorem whole_lt {l : List UInt8} {v : Nat} (h : wholeN l = some v) : v < 9223372036854775808 := by
  unfold wholeN at h
  split at h
  · cases h
  · split at h
    · split at h
      · injection h with h; omega
      · cases h
    · cases h
theorem itoa_nat (v : Nat) : Lib.itoa (v : Int) = Lib.decDigits v := by
  unfold Lib.itoa
  rw [if_neg (by omega)]
  simp
theorem num_whole {t : ByteArray} {v : Nat} (h : wholeN t.data.toList = some v) : numOf t = some (v : Int) := by
  have hd := adr.whole_dec h
  have hv := whole_lt h
  have e : t.data.toList = Lib.itoa (v : Int) := by rw [itoa_nat, hd]
  unfold numOf
  rw [e, atoi_itoa _ (by omega) (by omega)]
  simp
theorem rdR_digit {t : ByteArray} (h0 : 0 < t.size) (h1 : 48 ≤ t[0].toNat ∧ t[0].toNat ≤ 57) : (adr.rdR t).ok = false := by
  have hD : adr.isD t 0 = false := by
    rw [adr.isD_at h0, beq_eq_false_iff_ne]
    omega
  have hb : adr.b2N (adr.isD t 0) = 0 := by rw [hD]; rfl
  have hz : adr.b2N (adr.isD t 0) < t.size := by omega
  rw [adr.rdR_out hz (adr.isC_col (by simp only [hb]; omega))]
theorem whole_first {t : ByteArray} {v : Nat} (h : wholeN t.data.toList = some v) : ∃ h0 : 0 < t.size, 48 ≤ t[0].toNat ∧ t[0].toNat ≤ 57 := by
  have hd := adr.whole_dec h
  obtain ⟨d1, d2, d3, d4⟩ := dv_dec v
  rw [hd] at d2 d3
  have h0 : 0 < t.size := by
    rcases Nat.eq_zero_or_pos t.size with e | e
    · exfalso
      apply d3
      apply List.eq_nil_of_length_eq_zero
      simpa using e
    · exact e
  refine ⟨h0, ?_⟩
  have hm : t[0] ∈ t.data.toList := by
    have : t[0] = t.data.toList[0]'(by simpa using h0) := by simp; rfl
    rw [this]; exact List.getElem_mem _
  have := List.all_eq_true.1 d2 _ hm
  unfold dig at this
  simp at this
  exact this
theorem text_eq {t u : ByteArray} (h : (t.toList == u.data.toList) = true) : t = u := by
  rw [beq_iff_eq, ByteArray.toList_eq] at h
  obtain ⟨⟨l⟩⟩ := t
  obtain ⟨⟨m⟩⟩ := u
  simp at h
  rw [h]
theorem word_mean (t : ByteArray) (hsz : t.size ≤ 200) (hW : ∀ c, c ∈ t.data.toList → isW c.toNat = true) : wordR t = meanOf t := by
  unfold wordR
  cases hw : wholeN t.data.toList with
  | some v =>
    obtain ⟨h0, h1⟩ := whole_first hw
    have hr := refOf_no (rdR_digit h0 h1)
    have hn := num_whole hw
    have hd : rd t = (1, (v : Int), YtcekgefkimbfaaaGreatDoor.nul) := by
      unfold rd
      rw [if_neg, if_neg (by omega), hn]
      rw [ByteArray.toList_eq]
      intro e
      rw [List.isEmpty_iff] at e
      have : t.size = 0 := by
        show t.data.size = 0
        rw [← Array.length_toList, e]
        rfl
      omega
    unfold meanOf
    rw [hr, hd]
    rfl
  | none =>
    simp only
    by_cases hT : (t.toList == [84, 82, 85, 69]) = true
    · rw [if_pos hT]
      obtain rfl : t = ⟨#[84, 82, 85, 69]⟩ := text_eq hT
      have hr : refOf ⟨#[84, 82, 85, 69]⟩ = none := by decide +kernel
      have hd : rd ⟨#[84, 82, 85, 69]⟩ = (3, 1, YtcekgefkimbfaaaGreatDoor.nul) := by decide +kernel
      unfold meanOf
      rw [hr, hd]
      rfl
    rw [if_neg hT]
    by_cases hF : (t.toList == [70, 65, 76, 83, 69]) = true
    · rw [if_pos hF]
      obtain rfl : t = ⟨#[70, 65, 76, 83, 69]⟩ := text_eq hF
      have hr : refOf ⟨#[70, 65, 76, 83, 69]⟩ = none := by decide +kernel
      have hd : rd ⟨#[70, 65, 76, 83, 69]⟩ = (3, 0, YtcekgefkimbfaaaGreatDoor.nul) := by decide +kernel
      unfold meanOf
      rw [hr, hd]
      rfl
    rw [if_neg hF]
    cases hok : (adr.rdR t).ok with
    | true =>
      rw [if_pos rfl]
      unfold meanOf
      rw [refOf_yes hok]
    | false =>
      rw [if_neg (by simp)]
      have hn : numOf t = none := by
        cases hn : numOf t with
        | none => rfl
        | some v =>
          exfalso
          obtain ⟨e1, e2⟩ := numOf_some hn
          have hb := atoi_bd e1
          unfold Lib.itoa at e2
          split at e2
          · have := hW 45 (by rw [← e2]; simp)
            revert this; decide
          · have := adr.dec_whole (v := v.toNat) (by omega)
            rw [e2, hw] at this
            cases this
      have hd : (rd t).1 ≠ 1 ∧ (rd t).1 ≠ 3 := by
        unfold rd
        split
        · exact ⟨by decide, by decide⟩
        split
        · exact ⟨by decide, by decide⟩
        rw [hn]
        simp only
        split
        · exact ⟨by simp, by simp⟩
        · exact ⟨by simp, by simp⟩
      unfold meanOf
      rw [refOf_no hok]
      simp only
      rw [if_neg hd.1, if_neg hd.2]
end Go.Proofs.YtcekgefkimbfaaaGreatDoor.fm
/- The reference's reader, whole: whatever stands at a place is read as chapter 3 says. Condition: the text has at most 200 bytes. -/
namespace Go.Proofs.YtcekgefkimbfaaaGreatDoor.fm
open Go.RowKit
theorem tok_all (s : ByteArray) (k : Nat) (hk : k ≤ s.size) : ∀ c, c ∈ (tok s k).data.toList → isW c.toNat = true := by
  intro c hc
  have ht := tok_spec s k
  have hz := tok_size s k hk
  obtain ⟨i, hi, he⟩ := List.getElem_of_mem hc
  have hi' : i < tokEnd s k - k := by
    have : i < (tok s k).data.size := by simpa using hi
    have e : (tok s k).data.size = (tok s k).size := rfl
    omega
  have hle := ht.2.2.1 hk
  have hw := ht.2.2.2 (k + i) (by omega) (by omega)
  rw [nx_in (by omega)] at hw
  have : c = s[k + i]'(by omega) := by
    rw [← he]
    unfold tok
    simp
    rfl
  rw [this]; exact hw
/-- The reading from a place on behind whose blanks so much is left. -/
def RefTo (s : ByteArray) (m : Nat) : Prop :=
  ∀ pb k d wr w, PD w pb s k wr 0 d → k ≤ s.size → s.size - skip s k ≤ m → d ≤ 30 →
    Calls Tryz.prog 63 #[ptr pb] w (OutR w pb s d wr (Operand lexP s d k)) ∧ ∀ l, 1 ≤ l → l ≤ 5 → Calls Tryz.prog 44 #[ptr pb, .int .i64 (l : Nat)] w (OutR w pb s d wr (Expr lexP s l d k))
section
variable {s : ByteArray} (hs : s.size ≤ 200)
include hs
theorem rcall_of (pb k d : Nat) (wr0 : Int) (name : ByteArray) (w : World) (h : PD w pb s k wr0 0 (d + 1)) (hk : k < s.size) (hd : d ≤ 30)
    (hex : ∀ j w1, k < j → j ≤ s.size → PD w1 pb s j wr0 0 (d + 1) → Calls Tryz.prog 44 #[ptr pb, .int .i64 1] w1 (OutR w1 pb s (d + 1) wr0 (Expr lexP s 1 (d + 1) j))) :
    Calls Tryz.prog 90 #[ptr pb, .string name] w (OutR w pb s d wr0 ((Args lexP s (d + 1) (k + 1)).bind fun l k' => .ok (tCall name l) k')) := by
  by_cases h41 : nx s (skip s (k + 1)) = 41
  · exact rcall_none hs pb k d wr0 name w h hk hd h41
  · exact rcall_some hs pb k d wr0 name w h hk hd h41 hex
set_option maxHeartbeats 4000000 in
theorem rone_of (m : Nat) (ih : ∀ m', m' < m → RefTo s m') (pb k d : Nat) (wr : Int) (w : World) (h : PD w pb s k wr 0 d) (hk : k ≤ s.size) (hm : s.size - skip s k ≤ m) (hd : d ≤ 30) :
    Calls Tryz.prog 63 #[ptr pb] w (OutR w pb s d wr (Operand lexP s d k)) := by
  have hk1 := (skip_spec s k).2.2 hk
  have hsp := tk_spec s k hk
  have h45 := tk_byte s k 45 (.inr (.inr (.inr rfl))) hk
  have h40 := tk_byte s k 40 (.inl rfl) hk
  rw [Operand_eq lexP s d k hk]
  by_cases c45 : nx s (skip s k) = 45
  · have hlt := nx_lt (s := s) (k := skip s k) (by omega)
    rw [if_pos c45]
    obtain ⟨q1, q2⟩ := h45.1.2 c45
    have he := h45.2 c45
    by_cases hd30 : d = 30
    · rw [if_pos hd30]
      have := rone_neg_full pb k d wr s hs w h hk _ rfl q1 q2 hd30
      rw [hsp.1] at this
      exact this
    · rw [if_neg hd30]
      refine rone_neg pb k d wr s hs w h hk _ rfl q1 q2 (by omega) _ fun w1 hP1 => ?_
      rw [he] at hP1
      have hsk := (skip_spec s (skip s k + 1)).1
      exact (ih (s.size - skip s (skip s k + 1)) (by omega) pb _ (d + 1) wr w1 hP1 hlt (Nat.le_refl _) (by omega)).1
  rw [if_neg c45]
  by_cases c40 : nx s (skip s k) = 40
  · have hlt := nx_lt (s := s) (k := skip s k) (by omega)
    rw [if_pos c40]
    obtain ⟨q1, q2⟩ := h40.1.2 c40
    have he := h40.2 c40
    by_cases hd30 : d = 30
    · rw [if_pos hd30]
      have := rone_par_full pb k d wr s hs w h hk _ rfl q1 q2 hd30
      rw [hsp.1] at this
      exact this
    · rw [if_neg hd30]
      refine rone_par pb k d wr s hs w h hk _ rfl q1 q2 (by omega) _ fun w1 hP1 => ?_
      rw [he] at hP1
      have hsk := (skip_spec s (skip s k + 1)).1
      exact (ih (s.size - skip s (skip s k + 1)) (by omega) pb _ (d + 1) wr w1 hP1 hlt (Nat.le_refl _) (by omega)).2 1 (Nat.le_refl _) (by omega)
  rw [if_neg c40]
  have n45 : ¬ ((tkR s k).kind = 4 ∧ ((tkR s k).t.toList == [45]) = true) := fun q => c45 (h45.1.1 q)
  have n40 : ¬ ((tkR s k).kind = 4 ∧ ((tkR s k).t.toList == [40]) = true) := fun q => c40 (h40.1.1 q)
  by_cases c34 : nx s (skip s k) = 34
  · have hlt := nx_lt (s := s) (k := skip s k) (by omega)
    rw [if_pos c34]
    have hw : isW (nx s (skip s k)) = false := by rw [c34]; decide
    cases hq : quote s (skip s k + 1) [] with
    | none =>
      have ht : tkR s k = ⟨9, skip s k, skip s k, nul⟩ := by
        unfold tkR
        rw [if_neg (by omega), if_neg (by simp [hw]), if_pos c34, hq]
      exact rone_no pb k d wr s hs w h hk _ ht (by simp) (by simp) (by simp) (by simp)
    | some p =>
      obtain ⟨l, e⟩ := p
      have ht : tkR s k = ⟨2, skip s k, e, ⟨l.toArray⟩⟩ := by
        unfold tkR
        rw [if_neg (by omega), if_neg (by simp [hw]), if_pos c34, hq]
      exact rone_text pb k d wr s hs w h hk _ ht rfl
  rw [if_neg c34]
  by_cases c35 : nx s (skip s k) = 35
  · have hlt := nx_lt (s := s) (k := skip s k) (by omega)
    rw [if_pos c35]
    have hw : isW (nx s (skip s k)) = false := by rw [c35]; decide
    cases hq : badAt s (skip s k) with
    | none =>
      have ht : tkR s k = ⟨9, skip s k, skip s k, nul⟩ := by
        unfold tkR
        rw [if_neg (by omega), if_neg (by simp [hw]), if_neg c34, if_pos c35, hq]
      exact rone_no pb k d wr s hs w h hk _ ht (by simp) (by simp) (by simp) (by simp)
    | some p =>
      obtain ⟨n, len⟩ := p
      have hb := badAt_spec hq
      have ht : tkR s k = ⟨3, skip s k, skip s k + len, sh 4 (n : Nat) YtcekgefkimbfaaaGreatDoor.nul⟩ := by
        unfold tkR
        rw [if_neg (by omega), if_neg (by simp [hw]), if_neg c34, if_pos c35, hq]
      exact rone_bad pb k d wr s hs w h hk _ ht rfl n hb.1 hb.2.1 rfl
  rw [if_neg c35]
  cases hw : isW (nx s (skip s k)) with
  | true =>
    have ht := tk_word s k hk hw
    have htz : (tok s (skip s k)).size ≤ 200 := by have := tok_size s (skip s k) hk1; have := (tok_spec s (skip s k)).2.2.1 hk1; omega
    by_cases cn : isNm (tok s (skip s k)) = true ∧ nx s (tokEnd s (skip s k)) = 40
    · have hlt := nx_lt (s := s) (k := tokEnd s (skip s k)) (by omega)
      have hlo := (tok_spec s (skip s k)).1
      rw [if_pos cn]
      have hg : true = (isNm (tok s (skip s k)) && decide (nx s (tokEnd s (skip s k)) = 40)) := by rw [cn.1, decide_eq_true cn.2]; rfl
      by_cases hd30 : d = 30
      · rw [if_pos hd30]
        exact rone_call_full pb k d wr s hs w h hk _ ht rfl htz hg hd30
      · rw [if_neg hd30]
        refine rone_call pb k d wr s hs w h hk _ ht rfl htz hg (by omega) ((Args lexP s (d + 1) (tokEnd s (skip s k) + 1)).bind fun l k' => .ok (tCall (tok s (skip s k)) l) k') fun w1 hP1 => ?_
        refine rcall_of hs pb (tokEnd s (skip s k)) d wr (tok s (skip s k)) w1 hP1 hlt hd fun j w2 hj hj2 hP2 => ?_
        have hsk := (skip_spec s j).1
        exact (ih (s.size - skip s j) (by omega) pb j (d + 1) wr w2 hP2 hj2 (Nat.le_refl _) (by omega)).2 1 (Nat.le_refl _) (by omega)
    · rw [if_neg cn]
      have hg : false = (isNm (tok s (skip s k)) && decide (nx s (tokEnd s (skip s k)) = 40)) := by
        cases hb : isNm (tok s (skip s k)) with
        | false => rfl
        | true => rw [decide_eq_false (fun e => cn ⟨hb, e⟩)]; rfl
      refine rone_word pb k d wr s hs w h hk _ ht rfl htz hg _ ?_
      show _ = wres (tok s (skip s k)) (skip s k) (tokEnd s (skip s k))
      unfold wres
      rw [word_mean _ htz (tok_all s _ hk1)]
      rfl
  | false =>
    have hte : tok s (skip s k) = ⟨#[]⟩ := tok_none hw
    have hnm : isNm (⟨#[]⟩ : ByteArray) = false := by decide
    rw [if_neg (by rw [hte, hnm]; simp), hte, show lexP.mean ⟨#[]⟩ = none from lexP.empty]
    have hk1' : (tkR s k).kind ≠ 1 := fun e => by rw [tk_kind1 s k e] at hw; cases hw
    have hk2 : (tkR s k).kind ≠ 2 ∧ (tkR s k).kind ≠ 3 := by
      unfold tkR
      by_cases h0 : skip s k = s.size
      · rw [if_pos h0]; exact ⟨by simp, by simp⟩
      rw [if_neg h0, if_neg (by simp [hw]), if_neg c34, if_neg c35]
      split <;> exact ⟨by simp, by simp⟩
    by_cases hk4 : (tkR s k).kind = 4
    · have := rone_sign pb k d wr s hs w h hk _ rfl hk4 (by
        cases hq : ((tkR s k).t.toList == [45]) with
        | false => rfl
        | true => exact absurd ⟨hk4, hq⟩ n45) (by
        cases hq : ((tkR s k).t.toList == [40]) with
        | false => rfl
        | true => exact absurd ⟨hk4, hq⟩ n40)
      rw [hsp.1] at this
      exact this
    · have := rone_no pb k d wr s hs w h hk _ rfl hk1' hk2.1 hk2.2 hk4
      rw [hsp.1] at this
      exact this
theorem ref_to : ∀ m, RefTo s m := by
  intro m
  induction m using Nat.strongRecOn with
  | _ m ih =>
    intro pb k d wr w h hk hm hd
    refine ⟨rone_of hs m ih pb k d wr w h hk hm hd, fun l h1 h5 => ?_⟩
    refine rloose_of hs pb k d l wr w h hk h1 h5 (fun w1 hP1 => rone_of hs m ih pb k d wr w1 hP1 hk hm hd) fun l' j w1 g1 g5 hkj hj hP1 => ?_
    have hsk := (skip_spec s j).1
    exact (ih (s.size - skip s j) (by omega) pb j d wr w1 hP1 hj (Nat.le_refl _) hd).2 l' g1 g5
end
end Go.Proofs.YtcekgefkimbfaaaGreatDoor.fm
