/- Whole numbers by words: which of two is greater, and one less another. Conditions: as each theorem says. -/
import Derived.Test.YtgoadofnfaidcaaGreatDoorInt
import Derived.Deep.QuietTactic
import Derived.BigQuiet
namespace Go.Proofs.YtgoadofnfaidcaaGreatDoor
open Go.RowKit
theorem Rd.view {w : World} {v : Value} {n : Nat} {f : Nat → Nat} (h : Rd w v n f) : ∃ A cap, v = .slice A n cap ∧ n ≤ 17592186044420 ∧ (0 < n → ∃ b, A = some ⟨b, 0, none⟩ ∧ b < w.heap.size ∧ ∀ i, i < n → w.cell? ⟨b, i, none⟩ = some (.int .u32 (f i : Int)) ∧ f i < 4294967296) := by
  rcases h with ⟨rfl, rfl⟩ | ⟨b, cap, rfl, h⟩
  · exact ⟨none, 0, rfl, by omega, fun q => absurd q (by omega)⟩
  · exact ⟨some ⟨b, 0, none⟩, cap, rfl, h.lim, fun _ => ⟨b, rfl, h.lt, fun i hi => ⟨h.cell i hi, h.word i hi⟩⟩⟩
theorem wrapU_neg {x : Int} (h : -18446744073709551616 ≤ x) (h2 : x < 0) : IntKind.u64.wrap x = x + 18446744073709551616 := by
  simp [IntKind.wrap, IntKind.bits, IntKind.signed]; omega
theorem wrapU_in {x : Int} (h : 0 ≤ x) (h2 : x < 18446744073709551616) : IntKind.u64.wrap x = x := by
  simp [IntKind.wrap, IntKind.bits, IntKind.signed]; omega
theorem sub_math {VG Vg Vf c P Gk gk fk c' : Nat} (h : VG + Vg = Vf + c * P) (h2 : Gk + gk + c = fk + c' * W32) : VG + Gk * P + (Vg + gk * P) = Vf + fk * P + c' * (P * W32) := by
  have e : (Gk + gk + c) * P = (fk + c' * W32) * P := by rw [h2]
  have e1 : (Gk + gk + c) * P = Gk * P + gk * P + c * P := by rw [Nat.add_mul, Nat.add_mul]
  have e2 : (fk + c' * W32) * P = fk * P + c' * (P * W32) := by rw [Nat.add_mul, Nat.mul_assoc, Nat.mul_comm W32 P]
  omega
theorem pad_at {g : Nat → Nat} {m k : Nat} (h : k < m) : padF m g k = g k := if_pos h
theorem pad_off {g : Nat → Nat} {m k : Nat} (h : ¬ k < m) : padF m g k = 0 := if_neg h
/-- What stands after k rounds. -/
structure SubI (w : World) (br n m : Nat) (f g : Nat → Nat) (k : Nat) (G : Nat → Nat) (cc : Nat) (wr : World) : Prop where
  le : k ≤ n
  c : cc ≤ 1
  row : Row wr br n G
  word : ∀ i, i < k → G i < W32
  val : valN k G + valN k (padF m g) = valN k f + cc * W32 ^ k
  below : Below w.heap.size w wr
theorem SubI.step {w : World} {br n m : Nat} {f g : Nat → Nat} {k : Nat} {G : Nat → Nat} {cc : Nat} {wr : World} (h : SubI w br n m f g k G cc wr) (hk : k < n) (hbr : w.heap.size ≤ br) (d c' : Nat) (hd : d < W32) (hc : c' ≤ 1) (he : d + padF m g k + cc = f k + c' * W32) :
    SubI w br n m f g (k + 1) (upd G k d) c' (wr.setCell ⟨br, k, none⟩ (.int .u32 (d : Int))) := by
  refine ⟨hk, hc, h.row.set k hk d, ?_, ?_, h.below.setCell hbr _⟩
  · intro i hi
    by_cases q : i = k
    · subst q; rw [upd_at]; exact hd
    · rw [upd_off q]; exact h.word i (by omega)
  · have e1 : valN (k + 1) (upd G k d) = valN k G + d * W32 ^ k := by
      show valN k (upd G k d) + upd G k d k * W32 ^ k = _
      rw [upd_at, valN_congr k (upd G k d) G (fun i hi => upd_off (by omega))]
    rw [e1, Nat.pow_succ]
    exact sub_math h.val he
theorem SubI.done {w : World} {br n m : Nat} {f g : Nat → Nat} {G : Nat → Nat} {cc : Nat} {wr : World} (h : SubI w br n m f g n G cc wr) (hmn : m ≤ n) (hle : valN m g ≤ valN n f) : valN n G = valN n f - valN m g := by
  have h1 := h.val
  rw [pad_val hmn] at h1
  have h2 := valN_lt n G h.word
  have h3 := h.c
  match cc, h3, h1 with
  | 0, _, h1 => rw [Nat.zero_mul] at h1; omega
  | 1, _, h1 => rw [Nat.one_mul] at h1; omega
set_option maxRecDepth 100000 in
set_option maxHeartbeats 8000000 in
theorem sub_any (v1 v2 : Value) (n m : Nat) (f g : Nat → Nat) (w : World) (h1 : Rd w v1 n f) (h2 : Rd w v2 m g) (hmn : m ≤ n) (hle : valN m g ≤ valN n f) :
    Calls Tryz.prog 92 #[v1, v2] w fun e w' => (∃ v, e = .returned v ∧ Num w' v (valN n f - valN m g)) ∧ Below w.heap.size w w' := by
  have HLe : Hid (valN m g ≤ valN n f) := hle
  clear hle
  obtain ⟨A1, cap1, rfl, hl1, hA1⟩ := h1.view
  obtain ⟨A2, cap2, rfl, hl2, hA2⟩ := h2.view
  clear h1 h2
  have hmk := make_u32 n hl1 w
  have hr0 := Row.zeros w n
  go_enter Tryz.func92, Tryz.ntmps92
  go_upto_region 1 with fail
  go_cut [5] (fun s5 wx => ∃ br, s5 = .slice (some ⟨br, 0, none⟩) n n ∧ w.heap.size ≤ br ∧ Row wx br n (fun _ => 0) ∧ Below w.heap.size w wx)
  case first =>
    go_wp2_with fail
    go_meet
    case rel => exact ⟨_, rfl, Nat.le_refl _, hr0, (Below.refl _ _).alloc (Nat.le_refl _) _⟩
  case rest =>
  obtain ⟨br, rfl, hbr, hR, hB⟩ := hcut
  clear hmk hr0
  go_wp2_with fail
  go_loopw [6, 7] (fun c i wr => ∃ (k : Nat) (G : Nat → Nat) (cc : Nat), i = .int .i64 k ∧ c = .int .u64 cc ∧ SubI w br n m f g k G cc wr) (fun _ i _ => n - (intOf i).toNat)
  case atStart => exact ⟨0, _, 0, rfl, rfl, ⟨Nat.zero_le _, by omega, hR, fun i hi => absurd hi (by omega), rfl, hB⟩⟩
  case round =>
    clear hR hB
    obtain ⟨k, G, cc, rfl, rfl, hI⟩ := hrel
    have hk := hI.le
    have hcc := hI.c
    by_cases hlt : k < n
    · obtain ⟨b1, rfl, hb1, hc1⟩ := hA1 (by omega)
      obtain ⟨c1, hf⟩ := hc1 k hlt
      rw [← hI.below.cell (p := ⟨b1, k, none⟩) hb1] at c1
      have hfr := hI.row.free k
      have hgr := hI.row.cell k hlt
      clear hc1 hA1
      by_cases hkm : k < m
      · obtain ⟨b2, rfl, hb2, hc2⟩ := hA2 (by omega)
        obtain ⟨c2, hg⟩ := hc2 k hkm
        rw [← hI.below.cell (p := ⟨b2, k, none⟩) hb2] at c2
        have HP : Hid (padF m g k = g k) := pad_at hkm
        clear hc2 hA2
        by_cases q : cc + g k ≤ f k
        · have hst := hI.step hlt hbr (f k - cc - g k) 0 (by simp only [W32]; omega) (by omega) (by rw [HP.out]; simp only [W32]; omega)
          go_wp2_with fail
          skip
          exact ⟨⟨k + 1, _, 0, rfl, by congr 1; omega, by rw [show (f k : Int) - cc - g k = (((f k - cc - g k) : Nat) : Int) from by omega]; exact hst⟩, by simp [intOf]; omega⟩
        · by_cases q2 : cc ≤ f k
          · have hst := hI.step hlt hbr (f k + 4294967296 - cc - g k) 1 (by simp only [W32]; omega) (by omega) (by rw [HP.out]; simp only [W32]; omega)
            go_wp2_with fail
            rw [wrapU_neg (by omega) (by omega)]
            exact ⟨⟨k + 1, _, 1, rfl, by congr 1; omega, by rw [show ((f k : Int) - cc - g k + 18446744073709551616) % 4294967296 = (((f k + 4294967296 - cc - g k) : Nat) : Int) from by omega]; exact hst⟩, by simp [intOf]; omega⟩
          · have hst := hI.step hlt hbr (f k + 4294967296 - cc - g k) 1 (by simp only [W32]; omega) (by omega) (by rw [HP.out]; simp only [W32]; omega)
            go_wp2_with fail
            rw [wrapU_neg (x := (f k : Int) - cc) (by omega) (by omega), wrapU_in (by omega) (by omega)]
            exact ⟨⟨k + 1, _, 1, rfl, by congr 1; omega, by rw [show ((f k : Int) - cc + 18446744073709551616 - g k) % 4294967296 = (((f k + 4294967296 - cc - g k) : Nat) : Int) from by omega]; exact hst⟩, by simp [intOf]; omega⟩
      · have HP : Hid (padF m g k = 0) := pad_off hkm
        clear hA2
        by_cases q2 : cc ≤ f k
        · have hst := hI.step hlt hbr (f k - cc) 0 (by simp only [W32]; omega) (by omega) (by rw [HP.out]; simp only [W32]; omega)
          go_wp2_with fail
          skip
          exact ⟨⟨k + 1, _, 0, rfl, by congr 1; omega, by rw [show (f k : Int) - cc = (((f k - cc) : Nat) : Int) from by omega]; exact hst⟩, by simp [intOf]; omega⟩
        · have hst := hI.step hlt hbr (f k + 4294967296 - cc) 1 (by simp only [W32]; omega) (by omega) (by rw [HP.out]; simp only [W32]; omega)
          go_wp2_with fail
          rw [wrapU_neg (by omega) (by omega)]
          exact ⟨⟨k + 1, _, 1, rfl, by congr 1; omega, by rw [show ((f k : Int) - cc + 18446744073709551616) % 4294967296 = (((f k + 4294967296 - cc) : Nat) : Int) from by omega]; exact hst⟩, by simp [intOf]; omega⟩
    · have hkn : k = n := by omega
      subst hkn
      have hval := hI.done hmn HLe.out
      have hrd : RdS wr br k k G := ⟨Nat.le_refl _, hl1, by omega, hI.row.lt, hI.row.cell, fun i hi => hI.word i hi⟩
      have hB := hI.below
      clear hA1 hA2 hI
      go_wp2_with fail
      refine (trim_some _ _ _ _ _ hrd).mono ?_
      rintro e w2 ⟨rfl, rfl⟩
      go_wp2_with fail
      go_ret
      exact ⟨⟨_, rfl, num_trim (Or.inr ⟨_, _, rfl, hrd.cut (trimN_le _ _)⟩) hval⟩, hB⟩
end Go.Proofs.YtgoadofnfaidcaaGreatDoor
