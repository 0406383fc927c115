/- Plain facts: the name of a ref is read as that ref; what is shifted is shifted back. Nothing is walked here. -/
import Derived.Test.YtmaiabkggpifgaaDoorAname
import Derived.Test.YtmaiabkggpifgaaDoorAref2
import Derived.Test.YtmaiabkggpifgaaDoorAshift
namespace Go.Proofs.YtmaiabkggpifgaaDoor.adr
open Go.RowKit
theorem isD_list (s : ByteArray) (k : Nat) : isD s k = decide (s.data.toList[k]? = some 36) := by
  unfold isD
  split
  · rename_i h
    have hl : k < s.data.toList.length := by simpa using h
    rw [List.getElem?_eq_getElem hl]
    have e : s.data.toList[k] = s[k] := rfl
    rw [e]
    rw [Bool.eq_iff_iff, beq_iff_eq, decide_eq_true_iff]
    constructor
    · intro q
      congr 1
      exact UInt8.toNat_inj.1 q
    · intro q
      injection q with q
      rw [q]
      rfl
  · rename_i h
    rw [List.getElem?_eq_none (by simpa using h)]
    rfl
def sgL (t : Bool) : List UInt8 := if t = true then [36] else []
theorem sg_list (t : Bool) : (sg t).data.toList = sgL t := by cases t <;> rfl
/-- The bytes of a ref's text. -/
theorem nm_list {c r : Int} (fc fr : Bool) (h : isC c r = true) : (nm c r fc fr).data.toList = sgL fc ++ UInt8.ofNat (64 + c.toNat) :: (sgL fr ++ Lib.decDigits r.toNat) := by
  obtain ⟨⟨h1, h2⟩, h3, h4⟩ := isC_iff.1 h
  unfold nm itB
  rw [if_pos h, enc_letter h1 h2]
  simp only [ByteArray.data_append, Array.toList_append, sg_list]
  simp
theorem dec_small {u : Nat} (h : u < 10) : Lib.decDigits u = [UInt8.ofNat (48 + u)] := by rw [Lib.decDigits, dif_pos h]
theorem dec_two {u : Nat} (h : ¬ u < 10) (h2 : u < 100) : Lib.decDigits u = [UInt8.ofNat (48 + u / 10), UInt8.ofNat (48 + u % 10)] := by
  rw [Lib.decDigits, dif_neg h, dec_small (by omega)]
  rfl
theorem u8 {n : Nat} (h : n < 256) : (UInt8.ofNat n).toNat = n := by rw [UInt8.toNat_ofNat']; omega
theorem row_dec {u : Nat} (h1 : 1 ≤ u) (h2 : u < 100) : rowAcc 0 (Lib.decDigits u) = u := by
  by_cases h : u < 10
  · rw [dec_small h, rowAcc_step (by rw [u8 (by omega)]; omega) (by rw [u8 (by omega)]; omega), u8 (by omega)]
    show _ = _
    simp only [rowAcc]
    omega
  · rw [dec_two h h2, rowAcc_step (by rw [u8 (by omega)]; omega) (by rw [u8 (by omega)]; omega), u8 (by omega),
      rowAcc_step (by rw [u8 (by omega)]; omega) (by rw [u8 (by omega)]; omega), u8 (by omega)]
    simp only [rowAcc]
    omega
theorem dec_head {u : Nat} (h2 : u < 100) : ∃ d l, Lib.decDigits u = d :: l ∧ 48 ≤ d.toNat ∧ d.toNat ≤ 57 := by
  by_cases h : u < 10
  · exact ⟨_, _, dec_small h, by rw [u8 (by omega)]; omega, by rw [u8 (by omega)]; omega⟩
  · exact ⟨_, _, dec_two h h2, by rw [u8 (by omega)]; omega, by rw [u8 (by omega)]; omega⟩
theorem ne36 {d : UInt8} (h : 37 ≤ d.toNat) : decide (some d = some (36 : UInt8)) = false := by
  rw [decide_eq_false_iff_not]
  intro e
  injection e with e
  rw [e] at h
  exact absurd h (by decide)
/-- A text that is made as a ref's is read as that ref. -/
theorem rd_made (s : ByteArray) (c r : Int) (fc fr : Bool) (h : isC c r = true) (hs : s.data.toList = sgL fc ++ UInt8.ofNat (64 + c.toNat) :: (sgL fr ++ Lib.decDigits r.toNat)) : rdR s = ⟨c, r, fc, fr, true⟩ := by
  obtain ⟨⟨h1, h2⟩, h3, h4⟩ := isC_iff.1 h
  obtain ⟨d, l, hd, hd1, hd2⟩ := dec_head (u := r.toNat) (by omega)
  have hL : (UInt8.ofNat (64 + c.toNat)).toNat = 64 + c.toNat := u8 (by omega)
  have i0 : isD s 0 = fc := by
    rw [isD_list, hs]
    cases fc
    · exact ne36 (by rw [hL]; omega)
    · rfl
  have hlen : s.size = s.data.toList.length := by simp
  have hk : b2N fc < s.size := by
    rw [hlen, hs]
    cases fc <;> simp [sgL, b2N]
  have hat : s[b2N fc] = UInt8.ofNat (64 + c.toNat) := by
    have e : s.data.toList[b2N fc]? = some (UInt8.ofNat (64 + c.toNat)) := by
      rw [hs]
      cases fc <;> rfl
    rw [List.getElem?_eq_getElem (by rw [← hlen]; exact hk)] at e
    exact Option.some.inj e
  have i1 : isD s (b2N fc + 1) = fr := by
    rw [isD_list, hs, hd]
    cases fr
    · cases fc
      · exact ne36 (by omega)
      · exact ne36 (by omega)
    · cases fc <;> rfl
  have hrow : rowAt s (b2N fc + 1 + b2N fr) = r := by
    unfold rowAt
    have e : s.data.toList.drop (b2N fc + 1 + b2N fr) = Lib.decDigits r.toNat := by
      rw [hs]
      cases fc <;> cases fr <;> rfl
    rw [e, row_dec (by omega) (by omega)]
    omega
  unfold rdR
  simp only [i0, i1, hrow, hat, hL]
  have ec : (((64 + c.toNat : Nat)) : Int) - 64 = c := by omega
  rw [dif_pos hk, ec, if_pos h]
theorem rd_nm {c r : Int} (fc fr : Bool) (h : isC c r = true) : rdR (nm c r fc fr) = ⟨c, r, fc, fr, true⟩ := rd_made _ c r fc fr h (nm_list fc fr h)
theorem nm_size {c r : Int} (fc fr : Bool) : (nm c r fc fr).size ≤ 140737488355328 := by
  cases h : isC c r
  · unfold nm
    rw [h, if_neg (by simp)]
    decide
  · have hl : (nm c r fc fr).size = (nm c r fc fr).data.toList.length := by simp
    obtain ⟨⟨h1, h2⟩, h3, h4⟩ := isC_iff.1 h
    have := it_len (r := r.toNat) (by omega)
    rw [hl, nm_list fc fr h]
    cases fc <;> cases fr <;> simp [sgL] <;> omega
theorem bytes_eq {s t : ByteArray} (h : s.data.toList = t.data.toList) : s = t := by
  obtain ⟨⟨l⟩⟩ := s
  obtain ⟨⟨m⟩⟩ := t
  simp at h
  rw [h]
theorem nm_fact : nm 2 12 false false = ⟨#[66, 49, 50]⟩ := by
  have hl := nm_list (c := 2) (r := 12) false false (by decide)
  rw [show Lib.decDigits (12 : Int).toNat = [49, 50] from dec_two (by decide) (by decide)] at hl
  exact bytes_eq (by rw [hl]; rfl)
theorem sum_back {f : Bool} {c d : Int} (h1 : 1 ≤ c) (h2 : c ≤ 99) (d1 : -99 ≤ d) (d2 : d ≤ 99) (g1 : 1 ≤ sum1 f c d) (g2 : sum1 f c d ≤ 99) : sum1 f (sum1 f c d) (-d) = c := by
  cases f
  · have e : sum1 false c d = c + d := by unfold sum1; rw [if_neg (by simp), if_pos (by omega)]
    rw [e] at g1 g2 ⊢
    unfold sum1
    rw [if_neg (by simp), if_pos (by omega)]
    omega
  · rfl
theorem sh_back {c r cols rows : Int} {fc fr : Bool} (hok : (shR c r fc fr cols rows).ok = true) (a1 : -99 ≤ cols) (a2 : cols ≤ 99) (b1 : -99 ≤ rows) (b2 : rows ≤ 99) (S : Sh) (hS : shR c r fc fr cols rows = S) :
    shR S.c S.r S.fc S.fr (-cols) (-rows) = ⟨c, r, fc, fr, true⟩ := by
  subst hS
  unfold shR at hok
  cases h : isC c r
  · rw [if_neg (by simp [h])] at hok; cases hok
  rw [if_pos h] at hok
  cases h2 : isC (sum1 fc c cols) (sum1 fr r rows)
  · rw [if_neg (by simp [h2])] at hok; cases hok
  have e : shR c r fc fr cols rows = ⟨sum1 fc c cols, sum1 fr r rows, fc, fr, true⟩ := by unfold shR; rw [if_pos h, if_pos h2]
  rw [e]
  obtain ⟨⟨h1, h1'⟩, h3, h4⟩ := isC_iff.1 h
  obtain ⟨⟨g1, g1'⟩, g3, g4⟩ := isC_iff.1 h2
  have ec := sum_back (f := fc) (c := c) (d := cols) h1 (by omega) a1 a2 g1 (by omega)
  have er := sum_back (f := fr) (c := r) (d := rows) h3 h4 b1 b2 g3 g4
  unfold shR
  simp only
  rw [if_pos h2, ec, er, if_pos h]
end Go.Proofs.YtmaiabkggpifgaaDoor.adr
