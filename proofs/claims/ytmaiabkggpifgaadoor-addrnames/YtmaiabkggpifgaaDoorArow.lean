/- readRow: what the digits of a row are read as, for every text. Conditions: the text has at most 2^47 bytes. -/
import Derived.Test.YtmaiabkggpifgaaDoorAleaf
import Derived.Lib.ConvBytes
import Derived.LoopN
namespace Go.Proofs.YtmaiabkggpifgaaDoor.adr
open Go.RowKit
/-- What digits are, behind what was read. -/
def rowAcc : Nat → List UInt8 → Nat
  | r, [] => r
  | r, d :: l => if d.toNat < 48 ∨ 57 < d.toNat ∨ (r = 0 ∧ d.toNat = 48) then 0 else if 99 < r * 10 + (d.toNat - 48) then 0 else rowAcc (r * 10 + (d.toNat - 48)) l
theorem rowAcc_bad {r : Nat} {d : UInt8} {l : List UInt8} (h : d.toNat < 48 ∨ 57 < d.toNat ∨ (r = 0 ∧ d.toNat = 48)) : rowAcc r (d :: l) = 0 := by
  show (if _ then _ else _) = 0
  rw [if_pos h]
theorem rowAcc_over {r : Nat} {d : UInt8} {l : List UInt8} (h : 99 < r * 10 + (d.toNat - 48)) : rowAcc r (d :: l) = 0 := by
  show (if _ then _ else _) = 0
  rw [if_pos h]
  split <;> rfl
theorem rowAcc_step {r : Nat} {d : UInt8} {l : List UInt8} (h : ¬ (d.toNat < 48 ∨ 57 < d.toNat ∨ (r = 0 ∧ d.toNat = 48))) (h2 : ¬ 99 < r * 10 + (d.toNat - 48)) : rowAcc r (d :: l) = rowAcc (r * 10 + (d.toNat - 48)) l := by
  show (if _ then _ else if _ then _ else _) = _
  rw [if_neg h, if_neg h2]
theorem drop_at (s : ByteArray) (k : Nat) (h : k < s.size) : s.data.toList.drop k = s[k] :: s.data.toList.drop (k + 1) := by
  rw [List.drop_eq_getElem_cons (by simpa using h)]; rfl
theorem byte_lt (c : UInt8) : c.toNat < 256 := UInt8.toNat_lt c
theorem bytes_at (w : World) (s : ByteArray) (j : Nat) (h : j < s.size) : (Lib.bytesWorld w 5 s).cell? ⟨w.heap.size, j, none⟩ = some (.int .u8 (s[j].toNat : Nat)) := by
  rw [Lib.bytesWorld_cell w 5 s j h]
  have hl : j < s.data.toList.length := by simpa using h
  rw [List.getD_eq_getElem?_getD, List.getElem?_eq_getElem hl]
  rfl
set_option maxRecDepth 100000 in
set_option maxHeartbeats 4000000 in
theorem readRow_any (s : ByteArray) (w : World) (hs : s.size ≤ 140737488355328) :
    Calls Tryd.prog 40 #[.string s] w fun e w' => e = .returned (.int .i64 (rowAcc 0 s.data.toList : Nat)) ∧ w' = Lib.bytesWorld w 5 s := by
  have hcv := Lib.run_convert_string_bytes (P := Tryd.prog) w 9 61 5 s Tryd.underlying9 Tryd.underlying61 Tryd.underlying5
  have hcell := fun j h => bytes_at w s j h
  generalize Lib.bytesWorld w 5 s = bw at *
  generalize grownCap w s.size 0 5 = cap at *
  go_enter Tryd.func40, Tryd.ntmps40
  go_wp2_with fail
  go_loopw [3, 10] (fun row i wr => ∃ k r : Nat, k ≤ s.size ∧ i = .int .i64 k ∧ row = .int .i64 r ∧ r ≤ 99 ∧ rowAcc 0 s.data.toList = rowAcc r (s.data.toList.drop k) ∧ wr = bw) (fun _ i _ => s.size - (intOf i).toNat)
  case atStart => exact ⟨0, 0, Nat.zero_le _, rfl, rfl, by omega, rfl, rfl⟩
  case round =>
    obtain ⟨k, r, hk, rfl, rfl, hr, heq, rfl⟩ := hrel
    have HEQ : Hid (rowAcc 0 s.data.toList = rowAcc r (s.data.toList.drop k)) := heq
    clear heq
    by_cases hlt : k < s.size
    · have HDr : Hid (s.data.toList.drop k = s[k] :: s.data.toList.drop (k + 1)) := drop_at s k hlt
      have hc := hcell k hlt
      have hbl := byte_lt s[k]
      clear hcell
      by_cases d1 : s[k].toNat < 48
      · have HZ : Hid (rowAcc 0 s.data.toList = 0) := by unfold Hid; rw [HEQ.out, HDr.out]; exact rowAcc_bad (Or.inl d1)
        clear HEQ HDr
        have e48 : ((s[k].toNat : Int) == 48) = false := by rw [beq_eq_false_iff_ne]; omega
        by_cases hr0 : r = 0
        · subst hr0
          go_wp2_with fail
          go_ret
          exact ⟨by rw [HZ.out]; rfl, rfl⟩
        · have er : ((r : Int) == 0) = false := by rw [beq_eq_false_iff_ne]; omega
          go_wp2_with fail
          go_ret
          exact ⟨by rw [HZ.out]; rfl, rfl⟩
      by_cases d2 : 57 < s[k].toNat
      · have HZ : Hid (rowAcc 0 s.data.toList = 0) := by unfold Hid; rw [HEQ.out, HDr.out]; exact rowAcc_bad (Or.inr (Or.inl d2))
        clear HEQ HDr
        have e48 : ((s[k].toNat : Int) == 48) = false := by rw [beq_eq_false_iff_ne]; omega
        by_cases hr0 : r = 0
        · subst hr0
          go_wp2_with fail
          go_ret
          exact ⟨by rw [HZ.out]; rfl, rfl⟩
        · have er : ((r : Int) == 0) = false := by rw [beq_eq_false_iff_ne]; omega
          go_wp2_with fail
          go_ret
          exact ⟨by rw [HZ.out]; rfl, rfl⟩
      by_cases hr0 : r = 0
      · subst hr0
        by_cases d3 : s[k].toNat = 48
        · have HZ : Hid (rowAcc 0 s.data.toList = 0) := by unfold Hid; rw [HEQ.out, HDr.out]; exact rowAcc_bad (Or.inr (Or.inr ⟨rfl, d3⟩))
          have e48 : ((s[k].toNat : Int) == 48) = true := by rw [beq_iff_eq]; omega
          clear HEQ HDr d3
          go_wp2_with fail
          go_ret
          exact ⟨by rw [HZ.out]; rfl, rfl⟩
        · have HZ : Hid (rowAcc 0 s.data.toList = rowAcc (0 * 10 + (s[k].toNat - 48)) (s.data.toList.drop (k + 1))) := by unfold Hid; rw [HEQ.out, HDr.out]; exact rowAcc_step (by omega) (by omega)
          have e48 : ((s[k].toNat : Int) == 48) = false := by rw [beq_eq_false_iff_ne]; omega
          clear HEQ HDr
          go_wp2_with fail
          exact ⟨⟨k + 1, 0 * 10 + (s[k].toNat - 48), by omega, by go_num, by congr 1; omega, by omega, HZ.out, trivial⟩, by simp [intOf]; omega⟩
      · have er : ((r : Int) == 0) = false := by rw [beq_eq_false_iff_ne]; omega
        by_cases d4 : 99 < r * 10 + (s[k].toNat - 48)
        · have HZ : Hid (rowAcc 0 s.data.toList = 0) := by unfold Hid; rw [HEQ.out, HDr.out]; exact rowAcc_over d4
          clear HEQ HDr
          go_wp2_with fail
          go_ret
          exact ⟨by rw [HZ.out]; rfl, rfl⟩
        · have HZ : Hid (rowAcc 0 s.data.toList = rowAcc (r * 10 + (s[k].toNat - 48)) (s.data.toList.drop (k + 1))) := by unfold Hid; rw [HEQ.out, HDr.out]; exact rowAcc_step (by omega) (by omega)
          clear HEQ HDr
          go_wp2_with fail
          exact ⟨⟨k + 1, r * 10 + (s[k].toNat - 48), by omega, by go_num, by congr 1; omega, by omega, HZ.out, trivial⟩, by simp [intOf]; omega⟩
    · have hkn : k = s.size := by omega
      subst hkn
      have HZ : Hid (rowAcc 0 s.data.toList = r) := by
        unfold Hid
        rw [HEQ.out, List.drop_eq_nil_of_le (by simp)]
        rfl
      clear HEQ
      go_wp2_with fail
      go_ret
      exact ⟨by rw [HZ.out]; rfl, rfl⟩
end Go.Proofs.YtmaiabkggpifgaaDoor.adr
