
/- A product of words: its words come to the product. Conditions: as the theorem says. -/
import Derived.Test.YtnelglmbckgbgaaGreatDoorBig
import Derived.Deep.QuietTactic
import Derived.BigQuiet
namespace Go.Proofs.YtnelglmbckgbgaaGreatDoor
open Go.RowKit
theorem Row.drewN {w : World} {b N : Nat} {f : Nat → Nat} (h : Row w b N f) (k : Nat) : Row (w.drewN k) b N f := ⟨h.lt, h.cell, h.free⟩
theorem below_drewN {B : Nat} {w x : World} (h : Below B w x) (k : Nat) : Below B w (x.drewN k) := ⟨h.os, h.tape, h.output, h.size, h.block⟩
/-- What stands within a product: what is worked out so far. -/
def MulTo (N k m V : Nat) (r : Nat → Nat) : Prop := (∀ t, t < N → r t < W32) ∧ (∀ t, k + m ≤ t → t < N → r t = 0) ∧ valN N r = V
def MulIn (N k m l V x P c : Nat) (r : Nat → Nat) : Prop := (∀ t, t < N → r t < W32) ∧ (∀ t, k + m ≤ t → t < N → r t = 0) ∧ c < W32 ∧ valN N r + c * W32 ^ (k + l) = V + x * P * W32 ^ k
theorem mulIn_step {N k m l V x y P c : Nat} {r : Nat → Nat} (h : MulIn N k m l V x P c r) (hl : l < m) (hN : k + m < N) (hx : x < W32) (hy : y < W32) :
    MulIn N k m (l + 1) V x (P + y * W32 ^ l) ((c + (x * y + r (k + l))) / W32) (upd r (k + l) ((c + (x * y + r (k + l))) % W32)) := by
  obtain ⟨h1, h2, h3, h4⟩ := h
  have hf := mul_fit h3 hx hy (h1 (k + l) (by omega))
  refine ⟨?_, ?_, ?_, mul_step (by omega) rfl h4⟩
  · intro t ht
    unfold upd
    split
    · exact Nat.mod_lt _ (by decide)
    · exact h1 t ht
  · intro t h5 h6
    rw [upd_off (by omega)]
    exact h2 t h5 h6
  · unfold W32 at *
    omega
theorem mulTo_step {N k m V x P c : Nat} {r : Nat → Nat} (h : MulIn N k m m V x P c r) (hN : k + m < N) : MulTo N (k + 1) m (V + x * P * W32 ^ k) (upd r (k + m) c) := by
  obtain ⟨h1, h2, h3, h4⟩ := h
  refine ⟨?_, ?_, ?_⟩
  · intro t ht
    unfold upd
    split
    · exact h3
    · exact h1 t ht
  · intro t h5 h6
    rw [upd_off (by omega)]
    exact h2 t (by omega) h6
  · have := valN_upd r (k + m) c N hN
    rw [h2 (k + m) (by omega) hN] at this
    omega
theorem mul_outer {f : Nat → Nat} {k G : Nat} : valN k f * G + f k * G * W32 ^ k = valN (k + 1) f * G := by
  simp only [valN]
  rw [Nat.add_mul, Nat.mul_assoc, Nat.mul_assoc, Nat.mul_comm G]
theorem valN_noughts (n x : Nat) : valN n (fun _ => 0) = 0 * x := by
  have := valN_pad (f := fun _ => 0) 0 n (fun _ _ _ => rfl)
  rw [Nat.zero_add] at this
  rw [this, Nat.zero_mul]
  rfl
theorem mul_cmod (c x y r : Nat) : ((c : Int) + ((x : Int) * (y : Int) + (r : Int))) % 4294967296 = (((c + (x * y + r)) % W32 : Nat) : Int) := by simp [W32]
theorem mul_cdiv (c x y r : Nat) : ((c : Int) + ((x : Int) * (y : Int) + (r : Int))) / 4294967296 = (((c + (x * y + r)) / W32 : Nat) : Int) := by simp [W32]
theorem mul_big {x y : Nat} (hx : x < 4294967296) (hy : y < 4294967296) : (x : Int) * (y : Int) ≤ 18446744065119617025 ∧ 0 ≤ (x : Int) * (y : Int) := by
  have : x * y ≤ 4294967295 * 4294967295 := Nat.mul_le_mul (by omega) (by omega)
  refine ⟨?_, Int.mul_nonneg (by omega) (by omega)⟩
  rw [← Int.natCast_mul]
  omega
end Go.Proofs.YtnelglmbckgbgaaGreatDoor
