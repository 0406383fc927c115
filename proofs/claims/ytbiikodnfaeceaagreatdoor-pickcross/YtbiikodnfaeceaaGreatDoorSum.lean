/- Whole numbers by words: which of two is greater, one less another; sums with their signs. Conditions: as each theorem says. -/
import Derived.Test.YtbiikodnfaeceaaGreatDoorIntAdd
import Derived.Deep.QuietTactic
import Derived.BigQuiet
namespace Go.Proofs.YtbiikodnfaeceaaGreatDoor
open Go.RowKit
theorem Rd.view {w : World} {v : Value} {n : Nat} {f : Nat → Nat} (h : Rd w v n f) : ∃ A cap, v = .slice A n cap ∧ n ≤ 17592186044420 ∧ (0 < n → ∃ b, A = some ⟨b, 0, none⟩ ∧ b < w.heap.size ∧ ∀ i, i < n → w.cell? ⟨b, i, none⟩ = some (.int .u32 (f i : Int)) ∧ f i < 4294967296) := by
  rcases h with ⟨rfl, rfl⟩ | ⟨b, cap, rfl, h⟩
  · exact ⟨none, 0, rfl, by omega, fun q => absurd q (by omega)⟩
  · exact ⟨some ⟨b, 0, none⟩, cap, rfl, h.lim, fun _ => ⟨b, rfl, h.lt, fun i hi => ⟨h.cell i hi, h.word i hi⟩⟩⟩
theorem wrapU_neg {x : Int} (h : -18446744073709551616 ≤ x) (h2 : x < 0) : IntKind.u64.wrap x = x + 18446744073709551616 := by
  simp [IntKind.wrap, IntKind.bits, IntKind.signed]; omega
theorem wrapU_in {x : Int} (h : 0 ≤ x) (h2 : x < 18446744073709551616) : IntKind.u64.wrap x = x := by
  simp [IntKind.wrap, IntKind.bits, IntKind.signed]; omega
theorem sub_math {VG Vg Vf c P Gk gk fk c' : Nat} (h : VG + Vg = Vf + c * P) (h2 : Gk + gk + c = fk + c' * W32) : VG + Gk * P + (Vg + gk * P) = Vf + fk * P + c' * (P * W32) := by
  have e : (Gk + gk + c) * P = (fk + c' * W32) * P := by rw [h2]
  have e1 : (Gk + gk + c) * P = Gk * P + gk * P + c * P := by rw [Nat.add_mul, Nat.add_mul]
  have e2 : (fk + c' * W32) * P = fk * P + c' * (P * W32) := by rw [Nat.add_mul, Nat.mul_assoc, Nat.mul_comm W32 P]
  omega
theorem pad_at {g : Nat → Nat} {m k : Nat} (h : k < m) : padF m g k = g k := if_pos h
theorem pad_off {g : Nat → Nat} {m k : Nat} (h : ¬ k < m) : padF m g k = 0 := if_neg h
/-- What stands after k rounds. -/
structure SubI (w : World) (br n m : Nat) (f g : Nat → Nat) (k : Nat) (G : Nat → Nat) (cc : Nat) (wr : World) : Prop where
  le : k ≤ n
  c : cc ≤ 1
  row : Row wr br n G
  word : ∀ i, i < k → G i < W32
  val : valN k G + valN k (padF m g) = valN k f + cc * W32 ^ k
  below : Below w.heap.size w wr
theorem SubI.step {w : World} {br n m : Nat} {f g : Nat → Nat} {k : Nat} {G : Nat → Nat} {cc : Nat} {wr : World} (h : SubI w br n m f g k G cc wr) (hk : k < n) (hbr : w.heap.size ≤ br) (d c' : Nat) (hd : d < W32) (hc : c' ≤ 1) (he : d + padF m g k + cc = f k + c' * W32) :
    SubI w br n m f g (k + 1) (upd G k d) c' (wr.setCell ⟨br, k, none⟩ (.int .u32 (d : Int))) := by
  refine ⟨hk, hc, h.row.set k hk d, ?_, ?_, h.below.setCell hbr _⟩
  · intro i hi
    by_cases q : i = k
    · subst q; rw [upd_at]; exact hd
    · rw [upd_off q]; exact h.word i (by omega)
  · have e1 : valN (k + 1) (upd G k d) = valN k G + d * W32 ^ k := by
      show valN k (upd G k d) + upd G k d k * W32 ^ k = _
      rw [upd_at, valN_congr k (upd G k d) G (fun i hi => upd_off (by omega))]
    rw [e1, Nat.pow_succ]
    exact sub_math h.val he
theorem SubI.done {w : World} {br n m : Nat} {f g : Nat → Nat} {G : Nat → Nat} {cc : Nat} {wr : World} (h : SubI w br n m f g n G cc wr) (hmn : m ≤ n) (hle : valN m g ≤ valN n f) : valN n G = valN n f - valN m g := by
  have h1 := h.val
  rw [pad_val hmn] at h1
  have h2 := valN_lt n G h.word
  have h3 := h.c
  match cc, h3, h1 with
  | 0, _, h1 => rw [Nat.zero_mul] at h1; omega
  | 1, _, h1 => rw [Nat.one_mul] at h1; omega
set_option maxRecDepth 100000 in
set_option maxHeartbeats 8000000 in
theorem sub_any (v1 v2 : Value) (n m : Nat) (f g : Nat → Nat) (w : World) (h1 : Rd w v1 n f) (h2 : Rd w v2 m g) (hmn : m ≤ n) (hle : valN m g ≤ valN n f) :
    Calls Tryz.prog 147 #[v1, v2] w fun e w' => (∃ v, e = .returned v ∧ Num w' v (valN n f - valN m g)) ∧ Below w.heap.size w w' := by
  have HLe : Hid (valN m g ≤ valN n f) := hle
  clear hle
  obtain ⟨A1, cap1, rfl, hl1, hA1⟩ := h1.view
  obtain ⟨A2, cap2, rfl, hl2, hA2⟩ := h2.view
  clear h1 h2
  have hmk := make_u32 n hl1 w
  have hr0 := Row.zeros w n
  go_enter Tryz.func147, Tryz.ntmps147
  go_upto_region 1 with fail
  go_cut [5] (fun s5 wx => ∃ br, s5 = .slice (some ⟨br, 0, none⟩) n n ∧ w.heap.size ≤ br ∧ Row wx br n (fun _ => 0) ∧ Below w.heap.size w wx)
  case first =>
    go_wp2_with fail
    go_meet
    case rel => exact ⟨_, rfl, Nat.le_refl _, hr0, (Below.refl _ _).alloc (Nat.le_refl _) _⟩
  case rest =>
  obtain ⟨br, rfl, hbr, hR, hB⟩ := hcut
  clear hmk hr0
  go_wp2_with fail
  go_loopw [6, 7] (fun c i wr => ∃ (k : Nat) (G : Nat → Nat) (cc : Nat), i = .int .i64 k ∧ c = .int .u64 cc ∧ SubI w br n m f g k G cc wr) (fun _ i _ => n - (intOf i).toNat)
  case atStart => exact ⟨0, _, 0, rfl, rfl, ⟨Nat.zero_le _, by omega, hR, fun i hi => absurd hi (by omega), rfl, hB⟩⟩
  case round =>
    clear hR hB
    obtain ⟨k, G, cc, rfl, rfl, hI⟩ := hrel
    have hk := hI.le
    have hcc := hI.c
    by_cases hlt : k < n
    · obtain ⟨b1, rfl, hb1, hc1⟩ := hA1 (by omega)
      obtain ⟨c1, hf⟩ := hc1 k hlt
      rw [← hI.below.cell (p := ⟨b1, k, none⟩) hb1] at c1
      have hfr := hI.row.free k
      have hgr := hI.row.cell k hlt
      clear hc1 hA1
      by_cases hkm : k < m
      · obtain ⟨b2, rfl, hb2, hc2⟩ := hA2 (by omega)
        obtain ⟨c2, hg⟩ := hc2 k hkm
        rw [← hI.below.cell (p := ⟨b2, k, none⟩) hb2] at c2
        have HP : Hid (padF m g k = g k) := pad_at hkm
        clear hc2 hA2
        by_cases q : cc + g k ≤ f k
        · have hst := hI.step hlt hbr (f k - cc - g k) 0 (by simp only [W32]; omega) (by omega) (by rw [HP.out]; simp only [W32]; omega)
          go_wp2_with fail
          skip
          exact ⟨⟨k + 1, _, 0, rfl, by congr 1; omega, by rw [show (f k : Int) - cc - g k = (((f k - cc - g k) : Nat) : Int) from by omega]; exact hst⟩, by simp [intOf]; omega⟩
        · by_cases q2 : cc ≤ f k
          · have hst := hI.step hlt hbr (f k + 4294967296 - cc - g k) 1 (by simp only [W32]; omega) (by omega) (by rw [HP.out]; simp only [W32]; omega)
            go_wp2_with fail
            rw [wrapU_neg (by omega) (by omega)]
            exact ⟨⟨k + 1, _, 1, rfl, by congr 1; omega, by rw [show ((f k : Int) - cc - g k + 18446744073709551616) % 4294967296 = (((f k + 4294967296 - cc - g k) : Nat) : Int) from by omega]; exact hst⟩, by simp [intOf]; omega⟩
          · have hst := hI.step hlt hbr (f k + 4294967296 - cc - g k) 1 (by simp only [W32]; omega) (by omega) (by rw [HP.out]; simp only [W32]; omega)
            go_wp2_with fail
            rw [wrapU_neg (x := (f k : Int) - cc) (by omega) (by omega), wrapU_in (by omega) (by omega)]
            exact ⟨⟨k + 1, _, 1, rfl, by congr 1; omega, by rw [show ((f k : Int) - cc + 18446744073709551616 - g k) % 4294967296 = (((f k + 4294967296 - cc - g k) : Nat) : Int) from by omega]; exact hst⟩, by simp [intOf]; omega⟩
      · have HP : Hid (padF m g k = 0) := pad_off hkm
        clear hA2
        by_cases q2 : cc ≤ f k
        · have hst := hI.step hlt hbr (f k - cc) 0 (by simp only [W32]; omega) (by omega) (by rw [HP.out]; simp only [W32]; omega)
          go_wp2_with fail
          skip
          exact ⟨⟨k + 1, _, 0, rfl, by congr 1; omega, by rw [show (f k : Int) - cc = (((f k - cc) : Nat) : Int) from by omega]; exact hst⟩, by simp [intOf]; omega⟩
        · have hst := hI.step hlt hbr (f k + 4294967296 - cc) 1 (by simp only [W32]; omega) (by omega) (by rw [HP.out]; simp only [W32]; omega)
          go_wp2_with fail
          rw [wrapU_neg (by omega) (by omega)]
          exact ⟨⟨k + 1, _, 1, rfl, by congr 1; omega, by rw [show ((f k : Int) - cc + 18446744073709551616) % 4294967296 = (((f k + 4294967296 - cc) : Nat) : Int) from by omega]; exact hst⟩, by simp [intOf]; omega⟩
    · have hkn : k = n := by omega
      subst hkn
      have hval := hI.done hmn HLe.out
      have hrd : RdS wr br k k G := ⟨Nat.le_refl _, hl1, by omega, hI.row.lt, hI.row.cell, fun i hi => hI.word i hi⟩
      have hB := hI.below
      clear hA1 hA2 hI
      go_wp2_with fail
      refine (trim_some _ _ _ _ _ hrd).mono ?_
      rintro e w2 ⟨rfl, rfl⟩
      go_wp2_with fail
      go_ret
      exact ⟨⟨_, rfl, num_trim (Or.inr ⟨_, _, rfl, hrd.cut (trimN_le _ _)⟩) hval⟩, hB⟩
/-- Which of two is greater. -/
def cmpI (a b : Int) : Int := if a < b then -1 else if b < a then 1 else 0
theorem val_top {f g : Nat → Nat} {k : Nat} : ∀ n, k ≤ n → (∀ i, k ≤ i → i < n → f i = g i) → valN n f + valN k g = valN n g + valN k f
  | 0, h, _ => by
    obtain rfl : k = 0 := by omega
    rfl
  | n + 1, h, he => by
    by_cases q : k = n + 1
    · subst q; omega
    · have := val_top n (by omega) (fun i h1 h2 => he i h1 (by omega))
      show valN n f + f n * W32 ^ n + valN k g = valN n g + g n * W32 ^ n + valN k f
      rw [he n (by omega) (by omega)]
      omega
theorem val_less {f g : Nat → Nat} {n j : Nat} (hj : j < n) (he : ∀ i, j + 1 ≤ i → i < n → f i = g i) (hl : f j < g j) (hw : ∀ i, i < n → f i < W32) : valN n f < valN n g := by
  have h1 := val_top (k := j + 1) n hj he
  have h2 := valN_lt j f (fun i hi => hw i (by omega))
  have h3 : valN (j + 1) f = valN j f + f j * W32 ^ j := rfl
  have h4 : valN (j + 1) g = valN j g + g j * W32 ^ j := rfl
  have h5 : (f j + 1) * W32 ^ j ≤ g j * W32 ^ j := Nat.mul_le_mul_right _ hl
  rw [Nat.add_mul, Nat.one_mul] at h5
  omega
theorem val_short {f g : Nat → Nat} {n m : Nat} (h : n < m) (hf : ∀ i, i < n → f i < W32) (hg : Norm m g) : valN n f < valN m g := by
  obtain ⟨k, rfl⟩ : ∃ k, m = k + 1 := ⟨m - 1, by omega⟩
  have h1 := valN_lt n f hf
  have h2 := valN_ge (hg k rfl)
  have h3 : W32 ^ n ≤ W32 ^ k := Nat.pow_le_pow_right (by decide) (by omega)
  omega
theorem cmpI_lt {x y : Nat} (h : x < y) : cmpI x y = -1 := by unfold cmpI; rw [if_pos (by omega)]
theorem cmpI_gt {x y : Nat} (h : y < x) : cmpI x y = 1 := by unfold cmpI; rw [if_neg (by omega), if_pos (by omega)]
theorem cmpI_eq {x y : Nat} (h : x = y) : cmpI x y = 0 := by unfold cmpI; rw [if_neg (by omega), if_neg (by omega)]
theorem bdrewN {B : Nat} {a w : World} (h : Below B a w) (n : Nat) : Below B a (w.drewN n) := ⟨h.os, h.tape, h.output, h.size, h.block⟩
set_option maxRecDepth 100000 in
set_option maxHeartbeats 8000000 in
theorem cmp_any (v1 v2 : Value) (n m : Nat) (f g : Nat → Nat) (w : World) (h1 : Rd w v1 n f) (h2 : Rd w v2 m g) (hn1 : Norm n f) (hn2 : Norm m g) :
    Calls Tryz.prog 146 #[v1, v2] w fun e w' => e = .returned (.int .i64 (cmpI (valN n f : Nat) (valN m g : Nat))) ∧ Below w.heap.size w w' := by
  have hw1 := h1.word
  have hw2 := h2.word
  obtain ⟨A1, cap1, rfl, hl1, hA1⟩ := h1.view
  obtain ⟨A2, cap2, rfl, hl2, hA2⟩ := h2.view
  clear h1 h2
  by_cases q1 : n < m
  · rw [cmpI_lt (val_short q1 hw1 hn2)]
    have hne : ((n : Int) != (m : Int)) = true := by rw [bne_iff_ne]; omega
    clear hA1 hA2 hw1 hw2 hn1 hn2
    go_enter Tryz.func146, Tryz.ntmps146
    go_wp2_with fail
    go_ret
    exact ⟨rfl, Below.refl _ _⟩
  by_cases q2 : m < n
  · rw [cmpI_gt (val_short q2 hw2 hn1)]
    have hne : ((n : Int) != (m : Int)) = true := by rw [bne_iff_ne]; omega
    clear hA1 hA2 hw1 hw2 hn1 hn2
    go_enter Tryz.func146, Tryz.ntmps146
    go_wp2_with fail
    go_ret
    exact ⟨rfl, Below.refl _ _⟩
  obtain rfl : n = m := by omega
  clear q1 q2 hn1 hn2
  have HW1 : Hid (∀ i, i < n → f i < W32) := hw1
  have HW2 : Hid (∀ i, i < n → g i < W32) := hw2
  clear hw1 hw2
  go_enter Tryz.func146, Tryz.ntmps146
  go_wp2_with fail
  go_loopw [5] (fun i wr => ∃ k q : Nat, k ≤ n ∧ i = .int .i64 ((k : Int) - 1) ∧ Hid (∀ j, k ≤ j → j < n → f j = g j) ∧ wr = w.drewN q) (fun i _ => (intOf i + 1).toNat)
  case atStart => exact ⟨n, 0, Nat.le_refl _, rfl, fun j h1 h2 => absurd h1 (by omega), rfl⟩
  case round =>
    obtain ⟨k, q, hk, rfl, he, rfl⟩ := hrel
    match k, hk, he with
    | 0, hk, he =>
      have HE : Hid (valN n f = valN n g) := by
        have := val_top (f := f) (g := g) (k := 0) n (Nat.zero_le _) (fun i a b => he.out i a b)
        simp only [valN] at this
        unfold Hid
        omega
      clear hA1 hA2
      go_wp2_with fail
      go_ret
      exact ⟨by rw [cmpI_eq HE.out]; rfl, bdrewN (Below.refl _ _) q⟩
    | j + 1, hk, he =>
      obtain ⟨b1, rfl, hb1, hc1⟩ := hA1 (by omega)
      obtain ⟨b2, rfl, hb2, hc2⟩ := hA2 (by omega)
      obtain ⟨c1, hf⟩ := hc1 j (by omega)
      obtain ⟨c2, hg⟩ := hc2 j (by omega)
      have ej : (((j + 1 : Nat) : Int) - 1) = (j : Int) := by omega
      rw [ej]
      have hjn : (j : Int) < (n : Int) := by omega
      clear hc1 hc2 hA1 hA2
      by_cases q0 : f j = g j
      · have hne : (((f j : Nat) : Int) != ((g j : Nat) : Int)) = false := by rw [bne_eq_false_iff_eq]; omega
        have HE : Hid (∀ i, j ≤ i → i < n → f i = g i) := fun i a b => by
          by_cases qq : i = j
          · subst qq; exact q0
          · exact he.out i (by omega) b
        clear q0 he
        go_wp2_with fail
        go_quiet (fail)
        go_wp2_with fail
        exact ⟨⟨j, _, by omega, rfl, HE, rfl⟩, by simp [intOf]⟩
      · have hne : (((f j : Nat) : Int) != ((g j : Nat) : Int)) = true := by rw [bne_iff_ne]; omega
        by_cases q3 : f j < g j
        · have HL : Hid (valN n f < valN n g) := val_less (by omega) (fun i a b => he.out i a b) q3 HW1.out
          go_wp2_with fail
          go_quiet (fail)
          go_wp2_with fail
          go_quiet (fail)
          go_wp2_with fail
          go_ret
          exact ⟨by rw [cmpI_lt HL.out]; rfl, bdrewN (bdrewN (bdrewN (Below.refl _ _) _) _) _⟩
        · have HL : Hid (valN n g < valN n f) := val_less (by omega) (fun i a b => (he.out i a b).symm) (by omega) HW2.out
          have q4 : ¬ ((f j : Nat) : Int) < ((g j : Nat) : Int) := by omega
          go_wp2_with fail
          go_quiet (fail)
          go_wp2_with fail
          go_quiet (fail)
          go_wp2_with fail
          go_ret
          exact ⟨by rw [cmpI_gt HL.out]; rfl, bdrewN (bdrewN (bdrewN (Below.refl _ _) _) _) _⟩
/-- A number with its sign. -/
def sv (neg : Bool) (x : Nat) : Int := if neg = true then -(x : Int) else (x : Int)
theorem le_of_norm {f g : Nat → Nat} {n m : Nat} (hf : ∀ i, i < n → f i < W32) (hg : Norm m g) (h : valN m g ≤ valN n f) : m ≤ n := by
  by_cases q : m ≤ n
  · exact q
  · exact absurd (val_short (by omega) hf hg) (by omega)
set_option maxRecDepth 100000 in
set_option maxHeartbeats 4000000 in
theorem sum_any (xn yn : Bool) (v1 v2 : Value) (n m : Nat) (f g : Nat → Nat) (w : World) (h1 : Rd w v1 n f) (h2 : Rd w v2 m g) (hn1 : Norm n f) (hn2 : Norm m g) (hn : n ≤ 17592186044416) (hm : m ≤ 17592186044416) :
    Calls Tryz.prog 128 #[.bool xn, v1, .bool yn, v2] w fun e w' => (∃ s v z, e = .returned (.tuple #[.bool s, v]) ∧ Num w' v z ∧ sv s z = sv xn (valN n f) + sv yn (valN m g)) ∧ Below w.heap.size w w' := by
  by_cases hs : xn = yn
  · subst hs
    refine (sum_same xn v1 v2 n m f g w h1 h2 hn hm).mono ?_
    rintro e w1 ⟨⟨v, rfl, hv⟩, b1⟩
    exact ⟨⟨xn, v, _, rfl, hv, by unfold sv; cases xn <;> simp <;> omega⟩, b1⟩
  · have hne : (xn == yn) = false := beq_eq_false_iff_ne.2 hs
    have hw1 := h1.word
    have hw2 := h2.word
    have HS : Hid (xn ≠ yn) := hs
    clear hs
    by_cases hc : valN m g ≤ valN n f
    · have hcm : (0 : Int) ≤ cmpI (valN n f : Nat) (valN m g : Nat) := by
        unfold cmpI
        rw [if_neg (by omega)]
        split <;> omega
      have hmn := le_of_norm hw1 hn2 hc
      go_enter Tryz.func128, Tryz.ntmps128
      go_wp2_with fail
      refine (cmp_any v1 v2 n m f g _ h1 h2 hn1 hn2).mono ?_
      rintro e w1 ⟨rfl, b1⟩
      go_wp2_with fail
      refine (sub_any v1 v2 n m f g _ (h1.below b1) (h2.below b1) hmn hc).mono ?_
      rintro e w2 ⟨⟨v, rfl, hv⟩, b2⟩
      go_wp2_with fail
      go_ret2
      exact ⟨⟨xn, v, _, rfl, hv, by have := HS.out; unfold sv; cases xn <;> cases yn <;> simp at * <;> omega⟩, bnext b1 b2 b1.size⟩
    · have hcm : ¬ (0 : Int) ≤ cmpI (valN n f : Nat) (valN m g : Nat) := by
        rw [cmpI_lt (by omega)]
        omega
      have hmn := le_of_norm hw2 hn1 (show valN n f ≤ valN m g by omega)
      have hc' : valN n f ≤ valN m g := by omega
      go_enter Tryz.func128, Tryz.ntmps128
      go_wp2_with fail
      refine (cmp_any v1 v2 n m f g _ h1 h2 hn1 hn2).mono ?_
      rintro e w1 ⟨rfl, b1⟩
      go_wp2_with fail
      refine (sub_any v2 v1 m n g f _ (h2.below b1) (h1.below b1) hmn hc').mono ?_
      rintro e w2 ⟨⟨v, rfl, hv⟩, b2⟩
      go_wp2_with fail
      go_ret2
      exact ⟨⟨yn, v, _, rfl, hv, by have := HS.out; unfold sv; cases xn <;> cases yn <;> simp at * <;> omega⟩, bnext b1 b2 b1.size⟩
end Go.Proofs.YtbiikodnfaeceaaGreatDoor
