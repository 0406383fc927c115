
/- A number by words, divided by ten, and the rest. Conditions: as each theorem says. -/
import Derived.Test.YtnelglmbckgbgaaGreatDoorFit
namespace Go.Proofs.YtnelglmbckgbgaaGreatDoor
open Go.RowKit
/-- The number of the j words from above. -/
def hiN (f : Nat → Nat) (n : Nat) : Nat → Nat
  | 0 => 0
  | j + 1 => hiN f n j * W32 + f (n - 1 - j)
theorem hiN_val (f : Nat → Nat) (n : Nat) : ∀ j, j ≤ n → hiN f n j * W32 ^ (n - j) + valN (n - j) f = valN n f
  | 0, _ => by simp [hiN]
  | j + 1, h => by
    have ih := hiN_val f n j (by omega)
    obtain ⟨m, hm⟩ : ∃ m, n - j = m + 1 := ⟨n - j - 1, by omega⟩
    have e1 : n - (j + 1) = m := by omega
    have e2 : n - 1 - j = m := by omega
    rw [hm] at ih
    rw [e1, ← ih]
    simp only [hiN, e2, valN, Nat.pow_succ, Nat.add_mul]
    have : hiN f n j * W32 * W32 ^ m = hiN f n j * (W32 ^ m * W32) := by rw [Nat.mul_assoc, Nat.mul_comm W32]
    omega
theorem hiN_all (f : Nat → Nat) (n : Nat) : hiN f n n = valN n f := by
  have := hiN_val f n n (Nat.le_refl _)
  simpa [valN] using this
theorem ten_step (H c : Nat) (hc : c < 4294967296) : (H * 4294967296 + c) / 10 = (H / 10) * 4294967296 + ((H % 10) * 4294967296 + c) / 10 ∧ (H * 4294967296 + c) % 10 = ((H % 10) * 4294967296 + c) % 10 ∧ ((H % 10) * 4294967296 + c) / 10 < 4294967296 ∧ (H % 10) * 4294967296 + c < 18446744073709551616 := by
  omega
theorem or_form2 (a b : Nat) (ha : a < 4294967296) : b * 4294967296 ||| a = b * 4294967296 + a := by
  rw [Nat.or_comm, or_form _ _ ha]; omega
theorem ten_q (X : Nat) (h : X < 18446744073709551616) (h2 : X / 10 < 4294967296) : IntKind.u64.wrap ((X : Int).tdiv 10) % 4294967296 = ((X / 10 : Nat) : Int) := by
  rw [Int.tdiv_eq_ediv_of_nonneg (by omega)]
  rw [IntWalk.u64_in _ ⟨by omega, by omega⟩]
  omega
theorem or_ten (r c : Nat) (hr : r < 10) (hc : c < 4294967296) : Go.bits BinOp.or IntKind.u64 ((r : Int) * 4294967296) (c : Int) = ((r * 4294967296 + c : Nat) : Int) := by
  rw [show ((r : Int) * 4294967296) = ((r * 4294967296 : Nat) : Int) by simp, u64_or_nat _ _ (by omega) (by omega), or_form2 _ _ hc]
theorem ten_r (X : Nat) : (X : Int).tmod 10 = ((X % 10 : Nat) : Int) := by
  rw [Int.tmod_eq_emod_of_nonneg (by omega)]
  omega
/-- What stands after j rounds. -/
structure Tens (f F : Nat → Nat) (n j : Nat) : Prop where
  val : valN n F = (hiN f n j / 10) * W32 ^ (n - j)
  low : ∀ i, i < n - j → F i = 0
  word : ∀ i, F i < W32
theorem Tens.start (f : Nat → Nat) (n : Nat) : Tens f (fun _ => 0) n 0 :=
  ⟨by have := valN_pad (f := fun _ => 0) 0 n (fun _ _ _ => rfl); simpa [hiN, valN] using this, fun _ _ => rfl, fun _ => by decide⟩
theorem Tens.step {f F : Nat → Nat} {n j : Nat} (h : Tens f F n j) (hj : j < n) (hf : f (n - 1 - j) < W32) :
    Tens f (upd F (n - 1 - j) (((hiN f n j % 10) * 4294967296 + f (n - 1 - j)) / 10)) n (j + 1) := by
  obtain ⟨e1, _, e3, _⟩ := ten_step (hiN f n j) (f (n - 1 - j)) hf
  obtain ⟨m, hm⟩ : ∃ m, n - j = m + 1 := ⟨n - j - 1, by omega⟩
  have e4 : n - 1 - j = m := by omega
  have e5 : n - (j + 1) = m := by omega
  have hv := h.val
  rw [hm] at hv
  rw [e4] at e1 e3 hf
  refine ⟨?_, ?_, ?_⟩
  · have hu := valN_upd F m (((hiN f n j % 10) * 4294967296 + f m) / 10) n (by omega)
    rw [h.low m (by omega), Nat.zero_mul, Nat.add_zero] at hu
    rw [e4, e5, hu, hv]
    have e6 : hiN f n (j + 1) = hiN f n j * 4294967296 + f m := by simp only [hiN, e4, W32]
    rw [e6, e1, Nat.add_mul, Nat.pow_succ]
    have : (hiN f n j / 10) * (W32 ^ m * W32) = hiN f n j / 10 * 4294967296 * W32 ^ m := by rw [Nat.mul_comm (W32 ^ m), ← Nat.mul_assoc]; rfl
    omega
  · intro i hi
    rw [e5] at hi
    rw [e4, upd_off (by omega)]
    exact h.low i (by omega)
  · intro i
    rw [e4]
    by_cases hi : i = m
    · subst hi; rw [upd_at]; exact e3
    · rw [upd_off hi]; exact h.word i
set_option maxRecDepth 100000 in
set_option maxHeartbeats 2000000 in
theorem small_some (b n cap : Nat) (f : Nat → Nat) (w : World) (h : RdS w b n cap f) :
    Calls Tryz.prog 37 #[.slice (some ⟨b, 0, none⟩) n cap, .int .u32 10] w fun e w' => (∃ v, e = .returned (.tuple #[v, .int .u32 (valN n f % 10 : Nat)]) ∧ Num w' v (valN n f / 10) ∧ ∀ g, v.ownBlock = some g → w.heap.size ≤ g) ∧ Below w.heap.size w w' := by
  have hmk := make_u32 n h.lim w
  have hr0 := Row.zeros w n
  have hlim := h.lim
  go_enter Tryz.func37, Tryz.ntmps37
  go_upto_region 1 with fail
  go_cut [6] (fun s4 wx => ∃ br, s4 = .slice (some ⟨br, 0, none⟩) n n ∧ w.heap.size ≤ br ∧ Row wx br n (fun _ => 0) ∧ Below w.heap.size w wx)
  case first =>
    go_wp2_with fail
    go_meet
    case rel => exact ⟨_, rfl, Nat.le_refl _, hr0, (Below.refl _ _).alloc (Nat.le_refl _) _⟩
  case rest =>
  obtain ⟨br, rfl, hbr, hR, hB⟩ := hcut
  clear hmk hr0
  go_wp2_with fail
  go_loopw [7, 8] (fun r i wr => ∃ (j : Nat) (G : Nat → Nat), j ≤ n ∧ i = .int .i64 ((n : Int) - 1 - j) ∧ r = .int .u64 (hiN f n j % 10 : Nat) ∧ Row wr br n G ∧ Tens f G n j ∧ Below w.heap.size w wr) (fun _ i _ => (intOf i + 1).toNat)
  case atStart => exact ⟨0, _, Nat.zero_le _, by simp, rfl, hR, Tens.start f n, hB⟩
  case round =>
    obtain ⟨j, G, hj, rfl, rfl, hRk, hT, hBk⟩ := hrel
    have hrd : hiN f n j % 10 < 10 := Nat.mod_lt _ (by decide)
    by_cases hlt : j < n
    · obtain ⟨m, hm⟩ : ∃ m : Nat, n = m + 1 + j := ⟨n - 1 - j, by omega⟩
      have ei : ((n : Int) - 1 - j) = (m : Int) := by omega
      have e4 : n - 1 - j = m := by omega
      have hfm := h.word m (by omega)
      have hcm := (h.below hBk h.lt).cell m (by omega)
      have hcr := hRk.cell m (by omega)
      have hfr := hRk.free m
      have hst := hT.step hlt (by rw [e4]; exact hfm)
      have hs := hRk.set m (by omega) (((hiN f n j % 10) * 4294967296 + f m) / 10)
      obtain ⟨e1, e2, e3, e5⟩ := ten_step (hiN f n j) (f m) hfm
      have HE : Hid (hiN f n (j + 1) % 10 = ((hiN f n j % 10) * 4294967296 + f m) % 10) := show _ = _ by simp only [hiN, e4, W32]; exact e2
      have hb : Go.bits BinOp.or IntKind.u64 ((hiN f n j : Int) % 10 * 4294967296) (f m : Int) = ((hiN f n j % 10 * 4294967296 + f m : Nat) : Int) := by
        exact or_ten (hiN f n j % 10) (f m) hrd hfm
      have HB : Hid (Go.bits BinOp.or IntKind.u64 ((hiN f n j : Int) % 10 * 4294967296) (f m : Int) = ((hiN f n j % 10 * 4294967296 + f m : Nat) : Int)) := hb
      have hm' : m < n := by omega
      have HM : Hid (n = m + 1 + j) := hm
      rw [e4] at hst
      clear hm hb e1 e2 e4
      rw [ei]
      go_wp2
      rw [HB.out, ten_q _ e5 e3, ten_r]
      exact ⟨⟨j + 1, _, hlt, by rw [HM.out]; simp; omega, by rw [HE.out], hs, hst, hBk.setCell hbr _⟩, by simp [intOf]⟩
    · have hjn : j = n := by omega
      subst hjn
      have ei : ((j : Int) - 1 - j) = -1 := by omega
      have hvl : valN j G = valN j f / 10 := by rw [hT.val, hiN_all]; simp
      have hrd2 : RdS wr br j j G := ⟨Nat.le_refl _, hlim, by omega, hRk.lt, hRk.cell, fun i _ => hT.word i⟩
      rw [ei, hiN_all] at *
      go_wp2_with fail
      refine (trim_some _ _ _ _ _ hrd2).mono ?_
      rintro e w2 ⟨rfl, rfl⟩
      go_wp2_with fail
      exact bodyPost_ret (v := .tuple #[.slice (some ⟨br, 0, none⟩) (trimN j G) j, .int .u32 (valN j f % 10 : Nat)]) (by simp [results, Tryz.results37, go_sem]) rfl ⟨⟨_, rfl, num_trim (Or.inr ⟨_, _, rfl, hrd2.cut (trimN_le _ _)⟩) hvl, fun g hg => by simp [Value.ownBlock] at hg; omega⟩, hBk⟩
end Go.Proofs.YtnelglmbckgbgaaGreatDoor
