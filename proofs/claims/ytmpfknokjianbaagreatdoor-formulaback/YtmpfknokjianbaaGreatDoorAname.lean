/- The text of a ref that is one. Conditions: none. -/
import Derived.Test.YtmpfknokjianbaaGreatDoorArow
import Derived.Test.YtmpfknokjianbaaGreatDoorRep
import Derived.Deep.QuietTactic
import Derived.BigQuiet
import Derived.Laws.Runes
namespace Go.Proofs.YtmpfknokjianbaaGreatDoor.adr
open Go.RowKit
theorem enc_letter {c : Int} (h1 : 1 ≤ c) (h2 : c ≤ 26) : Utf8.encode (65 + c - 1) = ⟨#[UInt8.ofNat (64 + c.toNat)]⟩ := by
  have hv : Utf8.valid (65 + c - 1) = true := by unfold Utf8.valid; simp; omega
  unfold Utf8.encode
  simp only [hv, if_true]
  rw [if_pos (by omega), show (65 + c - 1).toNat = 64 + c.toNat from by omega]
def itB (r : Int) : ByteArray := ⟨(Lib.decDigits r.toNat).toArray⟩
/-- The text of a ref. -/
def nm (c r : Int) (fc fr : Bool) : ByteArray := if isC c r = true then sg fc ++ Utf8.encode (65 + c - 1) ++ sg fr ++ itB r else nul
theorem below_drewN {B : Nat} {a w : World} (h : Below B a w) (n : Nat) : Below B a (w.drewN n) := ⟨h.os, h.tape, h.output, h.size, h.block⟩
theorem sg_size (t : Bool) : (sg t).size ≤ 1 := by cases t <;> decide
theorem enc_size {c : Int} (h1 : 1 ≤ c) (h2 : c ≤ 26) : (Utf8.encode (65 + c - 1)).size = 1 := by rw [enc_letter h1 h2]; rfl
theorem it_len {r : Nat} (h : r < 100) : (Lib.decDigits r).length ≤ 2 := by
  rw [Lib.decDigits]
  split
  · simp
  · rw [Lib.decDigits, dif_pos (by omega)]
    simp
theorem it_size {r : Int} (h1 : 1 ≤ r) (h2 : r ≤ 99) : (itB r).size ≤ 2 := by
  have := it_len (r := r.toNat) (by omega)
  unfold itB
  simpa [ByteArray.size] using this
theorem itoa_at (r : Int) (h1 : 1 ≤ r) (h2 : r ≤ 99) (w : World) :
    Calls Tryz.prog 96 #[.int .i64 r] w fun e w' => e = .returned (.string (itB r)) ∧ w' = w := by
  have := Tryz.strconv_Itoa_small r.toNat (by omega) w
  rw [show ((r.toNat : Nat) : Int) = r from by omega] at this
  exact this
set_option maxRecDepth 100000 in
set_option maxHeartbeats 4000000 in
theorem refName_yes (c r : Int) (fc fr : Bool) (h : isC c r = true) (w : World) :
    Calls Tryz.prog 122 #[R c r fc fr] w fun e w' => e = .returned (.tuple #[.string (nm c r fc fr), .nilIface]) ∧ Below w.heap.size w w' := by
  have HN : Hid (nm c r fc fr = sg fc ++ Utf8.encode (65 + c - 1) ++ sg fr ++ itB r) := by unfold Hid nm; rw [if_pos h]
  obtain ⟨⟨h1, h2⟩, h3, h4⟩ := isC_iff.1 h
  have HC : Hid (isC c r = true) := h
  have q1 : ¬ 9223372036854775807 < (sg fc).size + (Utf8.encode (65 + c - 1)).size := by
    have := sg_size fc; have := enc_size h1 h2; omega
  have q2 : ¬ 9223372036854775807 < (sg fc).size + (Utf8.encode (65 + c - 1)).size + (sg fr).size := by
    have := sg_size fc; have := enc_size h1 h2; have := sg_size fr; omega
  have q3 : ¬ 9223372036854775807 < (sg fc).size + (Utf8.encode (65 + c - 1)).size + (sg fr).size + (itB r).size := by
    have := sg_size fc; have := enc_size h1 h2; have := sg_size fr; have := it_size h3 h4; omega
  clear h
  go_enter Tryz.func122, Tryz.ntmps122
  go_wp2_with fail
  refine (check_any _ _ _).mono ?_
  rintro e w1 ⟨rfl, b1⟩
  rw [HC.out, show ckc true = .nilIface from rfl]
  have hx : (w1.cell? ⟨w.heap.size, 0, none⟩ = some (.int .i64 c) ∧ w1.cell? ⟨w.heap.size, 1, none⟩ = some (.int .i64 r)) ∧ w1.cell? ⟨w.heap.size, 2, none⟩ = some (.bool fc) ∧ w1.cell? ⟨w.heap.size, 3, none⟩ = some (.bool fr) := by
    refine ⟨⟨?_, ?_⟩, ?_, ?_⟩ <;> (rw [b1.cell (by simp)]; simp)
  obtain ⟨⟨c0, c1⟩, c2, c3⟩ := hx
  have hB := bnext ((Below.refl w.heap.size w).alloc (Nat.le_refl _) _) b1 (by simp)
  clear b1
  go_wp2_with fail
  go_quiet ((first | (go_at_call 143; exact Calls.quiet_of_same (sign_any _ _)) | (go_at_call 96; exact Calls.quiet_of_same (itoa_at _ h3 h4 _))))
  go_wp2_with fail
  go_ret2
  exact ⟨by rw [HN.out]; rfl, below_drewN hB nq⟩
def sgL (t : Bool) : List UInt8 := if t = true then [36] else []
theorem sg_list (t : Bool) : (sg t).data.toList = sgL t := by cases t <;> rfl
/-- The bytes of a ref's text. -/
theorem nm_list {c r : Int} (fc fr : Bool) (h : isC c r = true) : (nm c r fc fr).data.toList = sgL fc ++ UInt8.ofNat (64 + c.toNat) :: (sgL fr ++ Lib.decDigits r.toNat) := by
  obtain ⟨⟨h1, h2⟩, h3, h4⟩ := isC_iff.1 h
  unfold nm itB
  rw [if_pos h, enc_letter h1 h2]
  simp only [ByteArray.data_append, Array.toList_append, sg_list]
  simp
end Go.Proofs.YtmpfknokjianbaaGreatDoor.adr
