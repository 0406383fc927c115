
/- Whole numbers by words: which of two is greater, and one less another. Conditions: as each theorem says. -/
import Derived.Test.YtnelglmbckgbgaaGreatDoorInt
import Derived.Deep.QuietTactic
import Derived.BigQuiet
namespace Go.Proofs.YtnelglmbckgbgaaGreatDoor
open Go.RowKit
theorem Rd.view {w : World} {v : Value} {n : Nat} {f : Nat → Nat} (h : Rd w v n f) : ∃ A cap, v = .slice A n cap ∧ n ≤ 17592186044420 ∧ (0 < n → ∃ b, A = some ⟨b, 0, none⟩ ∧ b < w.heap.size ∧ ∀ i, i < n → w.cell? ⟨b, i, none⟩ = some (.int .u32 (f i : Int)) ∧ f i < 4294967296) := by
  rcases h with ⟨rfl, rfl⟩ | ⟨b, cap, rfl, h⟩
  · exact ⟨none, 0, rfl, by omega, fun q => absurd q (by omega)⟩
  · exact ⟨some ⟨b, 0, none⟩, cap, rfl, h.lim, fun _ => ⟨b, rfl, h.lt, fun i hi => ⟨h.cell i hi, h.word i hi⟩⟩⟩
theorem wrapU_neg {x : Int} (h : -18446744073709551616 ≤ x) (h2 : x < 0) : IntKind.u64.wrap x = x + 18446744073709551616 := by
  simp [IntKind.wrap, IntKind.bits, IntKind.signed]; omega
theorem wrapU_in {x : Int} (h : 0 ≤ x) (h2 : x < 18446744073709551616) : IntKind.u64.wrap x = x := by
  simp [IntKind.wrap, IntKind.bits, IntKind.signed]; omega
theorem sub_math {VG Vg Vf c P Gk gk fk c' : Nat} (h : VG + Vg = Vf + c * P) (h2 : Gk + gk + c = fk + c' * W32) : VG + Gk * P + (Vg + gk * P) = Vf + fk * P + c' * (P * W32) := by
  have e : (Gk + gk + c) * P = (fk + c' * W32) * P := by rw [h2]
  have e1 : (Gk + gk + c) * P = Gk * P + gk * P + c * P := by rw [Nat.add_mul, Nat.add_mul]
  have e2 : (fk + c' * W32) * P = fk * P + c' * (P * W32) := by rw [Nat.add_mul, Nat.mul_assoc, Nat.mul_comm W32 P]
  omega
theorem pad_at {g : Nat → Nat} {m k : Nat} (h : k < m) : padF m g k = g k := if_pos h
theorem pad_off {g : Nat → Nat} {m k : Nat} (h : ¬ k < m) : padF m g k = 0 := if_neg h
/-- What stands after k rounds. -/
structure SubI (w : World) (br n m : Nat) (f g : Nat → Nat) (k : Nat) (G : Nat → Nat) (cc : Nat) (wr : World) : Prop where
  le : k ≤ n
  c : cc ≤ 1
  row : Row wr br n G
  word : ∀ i, i < k → G i < W32
  val : valN k G + valN k (padF m g) = valN k f + cc * W32 ^ k
  below : Below w.heap.size w wr
theorem SubI.step {w : World} {br n m : Nat} {f g : Nat → Nat} {k : Nat} {G : Nat → Nat} {cc : Nat} {wr : World} (h : SubI w br n m f g k G cc wr) (hk : k < n) (hbr : w.heap.size ≤ br) (d c' : Nat) (hd : d < W32) (hc : c' ≤ 1) (he : d + padF m g k + cc = f k + c' * W32) :
    SubI w br n m f g (k + 1) (upd G k d) c' (wr.setCell ⟨br, k, none⟩ (.int .u32 (d : Int))) := by
  refine ⟨hk, hc, h.row.set k hk d, ?_, ?_, h.below.setCell hbr _⟩
  · intro i hi
    by_cases q : i = k
    · subst q; rw [upd_at]; exact hd
    · rw [upd_off q]; exact h.word i (by omega)
  · have e1 : valN (k + 1) (upd G k d) = valN k G + d * W32 ^ k := by
      show valN k (upd G k d) + upd G k d k * W32 ^ k = _
      rw [upd_at, valN_congr k (upd G k d) G (fun i hi => upd_off (by omega))]
    rw [e1, Nat.pow_succ]
    exact sub_math h.val he
theorem SubI.done {w : World} {br n m : Nat} {f g : Nat → Nat} {G : Nat → Nat} {cc : Nat} {wr : World} (h : SubI w br n m f g n G cc wr) (hmn : m ≤ n) (hle : valN m g ≤ valN n f) : valN n G = valN n f - valN m g := by
  have h1 := h.val
  rw [pad_val hmn] at h1
  have h2 := valN_lt n G h.word
  have h3 := h.c
  match cc, h3, h1 with
  | 0, _, h1 => rw [Nat.zero_mul] at h1; omega
  | 1, _, h1 => rw [Nat.one_mul] at h1; omega
end Go.Proofs.YtnelglmbckgbgaaGreatDoor
