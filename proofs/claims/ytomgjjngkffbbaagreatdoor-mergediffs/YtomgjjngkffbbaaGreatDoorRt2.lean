
/- The reference's tokens. Condition: the place lies in the text, which has at most 200 bytes. -/
import Derived.Test.YtomgjjngkffbbaaGreatDoorFz
namespace Go.Proofs.YtomgjjngkffbbaaGreatDoor.fm
open Go.RowKit
/-- A token, as the model has it. -/
abbrev KV (kind at' end' : Int) (t : ByteArray) : Value := .agg #[.int .i64 kind, .int .i64 at', .int .i64 end', .string t]
abbrev KZ : Array Value := #[.int .i64 0, .int .i64 0, .int .i64 0, .string nul]
theorem wordly_any (c : Nat) (w : World) : Calls Tryz.prog 73 #[.int .u8 c] w fun e w' => e = .returned (.bool (isW c)) ∧ w' = w := by
  go_enter Tryz.func73, Tryz.ntmps73
  go_wp2
  all_goals
    go_ret
    refine ⟨retB ?_, rfl⟩
    rw [Bool.eq_iff_iff]
    simp [isW]
    omega
set_option maxRecDepth 100000 in
set_option maxHeartbeats 4000000 in
theorem token_end (s : ByteArray) (k : Nat) (w : World) (hs : s.size ≤ 200) (hk : k ≤ s.size) (he : skip s k = s.size) :
    Calls Tryz.prog 54 #[.string s, .int .i64 k] w fun e w' => e = .returned (KV 0 (skip s k : Nat) (skip s k : Nat) nul) ∧ Below w.heap.size w w' := by
  have hb0 : Below w.heap.size w (w.alloc (.cells KZ 105)) := (Below.refl _ _).alloc (Nat.le_refl _) _
  have hk1 := (skip_spec s k).2.2 hk
  have HE : Hid (skip s k = s.size) := he
  clear he
  go_enter Tryz.func54, Tryz.ntmps54
  go_wp2_with fail
  go_loopw [1] (fun i wr => ∃ j : Nat, i = .int .i64 j ∧ j ≤ s.size ∧ skip s j = skip s k ∧ wr = w.alloc (.cells KZ 105)) (fun i _ => s.size - (intOf i).toNat)
  case atStart => exact ⟨k, rfl, hk, rfl, rfl⟩
  case round =>
    obtain ⟨j, rfl, hj, hsk, rfl⟩ := hrel
    by_cases c32 : nx s j = 32
    · have hlt := nx_lt (s := s) (k := j) (by omega)
      have hq : ((s[j].toNat : Nat) : Int) = 32 := by rw [nx_in hlt] at c32; omega
      have hq' : (((s[j].toNat : Nat) : Int) == 32) = true := by rw [beq_iff_eq]; exact hq
      have HS : Hid (skip s j = skip s k) := hsk
      have HC : Hid (nx s j = 32) := c32
      clear hsk c32 hq 
      go_wp2_with fail
      exact ⟨⟨j + 1, by simp, hlt, by rw [← HS.out, skip_blank HC.out], trivial⟩, by simp [intOf]; omega⟩
    · have hja : j = skip s k := by rw [← hsk, skip_else c32]
      subst hja
      clear hsk
      have hn : ¬ ((skip s k : Nat) : Int) < (s.size : Int) := by rw [HE.out]; omega
      have hq : (((skip s k : Nat) : Int) == (s.size : Int)) = true := by rw [beq_iff_eq, HE.out]
      go_wp2_with fail
      exact bodyPost_ret (v := KV 0 (skip s k : Nat) (skip s k : Nat) nul) (by simp [results, Tryz.results54, go_sem]) rfl ⟨rfl, by (repeat (first | exact Below.refl _ _ | assumption | (refine Below.setCell ?_ (by first | omega | (simp <;> omega)) _) | (refine Below.alloc ?_ (by first | omega | (simp <;> omega)) _) | (refine Below.drew ?_)))⟩
set_option maxRecDepth 100000 in
set_option maxHeartbeats 4000000 in
theorem token_word (s : ByteArray) (k : Nat) (w : World) (hs : s.size ≤ 200) (hk : k ≤ s.size) (hw : isW (nx s (skip s k)) = true) :
    Calls Tryz.prog 54 #[.string s, .int .i64 k] w fun e w' => e = .returned (KV 1 (skip s k : Nat) (tokEnd s (skip s k) : Nat) (tok s (skip s k))) ∧ Below w.heap.size w w' := by
  have hb0 : Below w.heap.size w (w.alloc (.cells KZ 105)) := (Below.refl _ _).alloc (Nat.le_refl _) _
  have hk1 := (skip_spec s k).2.2 hk
  have hlt0 := nx_lt (s := s) (k := skip s k) (by have := isW_pos hw; omega)
  have HW : Hid (isW (nx s (skip s k)) = true) := hw
  clear hw
  unfold tok
  go_enter Tryz.func54, Tryz.ntmps54
  go_wp2_with fail
  go_loopw [1] (fun i wr => ∃ j : Nat, i = .int .i64 j ∧ j ≤ s.size ∧ skip s j = skip s k ∧ wr = w.alloc (.cells KZ 105)) (fun i _ => s.size - (intOf i).toNat)
  case atStart => exact ⟨k, rfl, hk, rfl, rfl⟩
  case round =>
    obtain ⟨j, rfl, hj, hsk, rfl⟩ := hrel
    by_cases c32 : nx s j = 32
    · have hlt := nx_lt (s := s) (k := j) (by omega)
      have hq : ((s[j].toNat : Nat) : Int) = 32 := by rw [nx_in hlt] at c32; omega
      have hq' : (((s[j].toNat : Nat) : Int) == 32) = true := by rw [beq_iff_eq]; exact hq
      have HS : Hid (skip s j = skip s k) := hsk
      have HC : Hid (nx s j = 32) := c32
      clear hsk c32 hq 
      go_wp2_with fail
      exact ⟨⟨j + 1, by simp, hlt, by rw [← HS.out, skip_blank HC.out], trivial⟩, by simp [intOf]; omega⟩
    · have hja : j = skip s k := by rw [← hsk, skip_else c32]
      subst hja
      clear hsk
      have hq : ¬ (((skip s k : Nat) : Int) == (s.size : Int)) = true := by rw [beq_iff_eq]; omega
      have hq2 : (((skip s k : Nat) : Int) == (s.size : Int)) = false := by simpa using hq
      have hb : (((s[skip s k].toNat : Nat) : Int) == 32) = false := by rw [beq_eq_false_iff_ne, ← nx_in hlt0]; omega
      clear hq c32
      go_wp2_with fail
      rw [← nx_in hlt0]
      refine (wordly_any _ _).mono ?_
      rintro e w1 ⟨rfl, rfl⟩
      rw [HW.out]
      have ht := tok_spec s (skip s k)
      have hte := ht.2.2.1 hk1
      have hlo := ht.1
      clear ht
      go_wp2_with fail
      go_loopw [7] (fun i wr => ∃ j : Nat, i = .int .i64 j ∧ j ≤ s.size ∧ skip s k ≤ j ∧ tokEnd s j = tokEnd s (skip s k) ∧ wr = w.alloc (.cells KZ 105)) (fun i _ => s.size - (intOf i).toNat)
      case atStart => exact ⟨skip s k, rfl, hk1, Nat.le_refl _, rfl, rfl⟩
      case round =>
        obtain ⟨j, rfl, hj, hkj, hsk, rfl⟩ := hrel
        have HS : Hid (tokEnd s j = tokEnd s (skip s k)) := hsk
        clear hsk
        by_cases hlt : j < s.size
        · have hnx := nx_in hlt
          go_wp2_with fail
          rw [← hnx]
          refine (wordly_any _ _).mono ?_
          rintro e w2 ⟨rfl, rfl⟩
          cases hw : isW (nx s j)
          · have HT := tok_out hw
            have hjj : j = tokEnd s (skip s k) := by rw [← HS.out, HT]
            clear HT hw HS
            subst hjj
            go_wp2_with fail
            exact bodyPost_ret (v := KV 1 (skip s k : Nat) (tokEnd s (skip s k) : Nat) (s.extract (skip s k) (tokEnd s (skip s k)))) (by simp [results, Tryz.results54, go_sem]) rfl ⟨rfl, by (repeat (first | exact Below.refl _ _ | assumption | (refine Below.setCell ?_ (by first | omega | (simp <;> omega)) _) | (refine Below.alloc ?_ (by first | omega | (simp <;> omega)) _) | (refine Below.drew ?_)))⟩
          · go_wp2_with fail
            exact ⟨⟨j + 1, by simp, hlt, by omega, tokEnd_step HS.out hw, trivial⟩, by simp [intOf]; omega⟩
        · have hjj : j = tokEnd s (skip s k) := by rw [← HS.out, tok_out (by rw [nx_out hlt]; rfl)]
          clear HS
          subst hjj
          go_wp2_with fail
          exact bodyPost_ret (v := KV 1 (skip s k : Nat) (tokEnd s (skip s k) : Nat) (s.extract (skip s k) (tokEnd s (skip s k)))) (by simp [results, Tryz.results54, go_sem]) rfl ⟨rfl, by (repeat (first | exact Below.refl _ _ | assumption | (refine Below.setCell ?_ (by first | omega | (simp <;> omega)) _) | (refine Below.alloc ?_ (by first | omega | (simp <;> omega)) _) | (refine Below.drew ?_)))⟩
end Go.Proofs.YtomgjjngkffbbaaGreatDoor.fm
/- The reference's signs. Condition: the place lies in the text, which has at most 200 bytes. -/
namespace Go.Proofs.YtomgjjngkffbbaaGreatDoor.fm
open Go.RowKit
theorem ext2 (s : ByteArray) (a : Nat) (h : a + 2 ≤ s.size) : (s.extract a (a + 2)).toList = [s[a], s[a + 1]] := by
  rw [ByteArray.toList_eq]
  have h1 := drop_cons s a (by omega)
  have h2 := drop_cons s (a + 1) (by omega)
  simp
  rw [h1, h2]
  rfl
theorem u8_eq (c : UInt8) (n : Nat) (h : n < 256) : c = UInt8.ofNat n ↔ c.toNat = n := by
  constructor
  · intro e; rw [e, UInt8.toNat_ofNat']; omega
  · intro e; rw [← e]; simp
theorem two_is (s : ByteArray) (a x y : Nat) (h : a + 2 ≤ s.size) (hx : x < 256) (hy : y < 256) : ((s.extract a (a + 2)).toList == [UInt8.ofNat x, UInt8.ofNat y]) = (decide (nx s a = x) && decide (nx s (a + 1) = y)) := by
  rw [ext2 s a h, nx_in (by omega : a < s.size), nx_in (by omega : a + 1 < s.size), Bool.eq_iff_iff]
  simp [u8_eq _ _ hx, u8_eq _ _ hy]
set_option maxRecDepth 100000 in
set_option maxHeartbeats 4000000 in
theorem token_sign_ne (s : ByteArray) (k : Nat) (w : World) (hs : s.size ≤ 200) (hk : k ≤ s.size) (hlt0 : skip s k < s.size) (hxy : nx s (skip s k) = 60 ∧ nx s (skip s k + 1) = 62) :
    Calls Tryz.prog 54 #[.string s, .int .i64 k] w fun e w' => e = .returned (KV 4 (skip s k : Nat) ((skip s k : Nat) + 2) (s.extract (skip s k) (skip s k + 2))) ∧ Below w.heap.size w w' := by
  have hb0 : Below w.heap.size w (w.alloc (.cells KZ 105)) := (Below.refl _ _).alloc (Nat.le_refl _) _
  have hk1 := (skip_spec s k).2.2 hk
  have hle : skip s k + 2 ≤ s.size := by have := nx_lt (s := s) (k := skip s k + 1) (by omega); omega
  have hleI : ((skip s k : Nat) : Int) + 2 ≤ (s.size : Int) := by omega
  have HXY : Hid (nx s (skip s k) = 60 ∧ nx s (skip s k + 1) = 62) := hxy
  have HG : Hid (isW (nx s (skip s k)) = false ∧ nx s (skip s k) ≠ 34 ∧ nx s (skip s k) ≠ 35) := by unfold Hid; rw [hxy.1]; exact ⟨by decide, by omega, by omega⟩
  clear hxy
  go_enter Tryz.func54, Tryz.ntmps54
  go_wp2_with fail
  go_loopw [1] (fun i wr => ∃ j : Nat, i = .int .i64 j ∧ j ≤ s.size ∧ skip s j = skip s k ∧ wr = w.alloc (.cells KZ 105)) (fun i _ => s.size - (intOf i).toNat)
  case atStart => exact ⟨k, rfl, hk, rfl, rfl⟩
  case round =>
    obtain ⟨j, rfl, hj, hsk, rfl⟩ := hrel
    by_cases c32 : nx s j = 32
    · have hlt := nx_lt (s := s) (k := j) (by omega)
      have hq : ((s[j].toNat : Nat) : Int) = 32 := by rw [nx_in hlt] at c32; omega
      have hq' : (((s[j].toNat : Nat) : Int) == 32) = true := by rw [beq_iff_eq]; exact hq
      have HS : Hid (skip s j = skip s k) := hsk
      have HC : Hid (nx s j = 32) := c32
      clear hsk c32 hq 
      go_wp2_with fail
      exact ⟨⟨j + 1, by simp, hlt, by rw [← HS.out, skip_blank HC.out], trivial⟩, by simp [intOf]; omega⟩
    · have hja : j = skip s k := by rw [← hsk, skip_else c32]
      subst hja
      clear hsk
      have hq2 : (((skip s k : Nat) : Int) == (s.size : Int)) = false := by rw [beq_eq_false_iff_ne]; omega
      have hb : (((s[skip s k].toNat : Nat) : Int) == 32) = false := by rw [beq_eq_false_iff_ne, ← nx_in hlt0]; omega
      have h34 : (((nx s (skip s k) : Nat) : Int) == 34) = false := by rw [beq_eq_false_iff_ne]; have := HG.out.2.1; omega
      have h35 : (((nx s (skip s k) : Nat) : Int) == 35) = false := by rw [beq_eq_false_iff_ne]; have := HG.out.2.2; omega
      clear c32
      go_wp2_with fail
      rw [← nx_in hlt0]
      refine (wordly_any _ _).mono ?_
      rintro e w1 ⟨rfl, rfl⟩
      rw [HG.out.1]
      have t0 : ((s.extract (skip s k) (skip s k + 2)).toList == [60, 62]) = true := by rw [show ([60, 62] : List UInt8) = [UInt8.ofNat 60, UInt8.ofNat 62] from rfl, two_is s _ 60 62 hle (by omega) (by omega), HXY.out.1, HXY.out.2]; rfl
      clear HXY
      go_wp2_with fail
      exact bodyPost_ret (v := KV 4 (skip s k : Nat) ((skip s k : Nat) + 2) (s.extract (skip s k) (skip s k + 2))) (by simp [results, Tryz.results54, go_sem]) rfl ⟨rfl, by (repeat (first | exact Below.refl _ _ | assumption | (refine Below.setCell ?_ (by first | omega | (simp <;> omega)) _) | (refine Below.alloc ?_ (by first | omega | (simp <;> omega)) _) | (refine Below.drew ?_)))⟩
set_option maxRecDepth 100000 in
set_option maxHeartbeats 4000000 in
theorem token_sign_le (s : ByteArray) (k : Nat) (w : World) (hs : s.size ≤ 200) (hk : k ≤ s.size) (hlt0 : skip s k < s.size) (hxy : nx s (skip s k) = 60 ∧ nx s (skip s k + 1) = 61) :
    Calls Tryz.prog 54 #[.string s, .int .i64 k] w fun e w' => e = .returned (KV 4 (skip s k : Nat) ((skip s k : Nat) + 2) (s.extract (skip s k) (skip s k + 2))) ∧ Below w.heap.size w w' := by
  have hb0 : Below w.heap.size w (w.alloc (.cells KZ 105)) := (Below.refl _ _).alloc (Nat.le_refl _) _
  have hk1 := (skip_spec s k).2.2 hk
  have hle : skip s k + 2 ≤ s.size := by have := nx_lt (s := s) (k := skip s k + 1) (by omega); omega
  have hleI : ((skip s k : Nat) : Int) + 2 ≤ (s.size : Int) := by omega
  have HXY : Hid (nx s (skip s k) = 60 ∧ nx s (skip s k + 1) = 61) := hxy
  have HG : Hid (isW (nx s (skip s k)) = false ∧ nx s (skip s k) ≠ 34 ∧ nx s (skip s k) ≠ 35) := by unfold Hid; rw [hxy.1]; exact ⟨by decide, by omega, by omega⟩
  clear hxy
  go_enter Tryz.func54, Tryz.ntmps54
  go_wp2_with fail
  go_loopw [1] (fun i wr => ∃ j : Nat, i = .int .i64 j ∧ j ≤ s.size ∧ skip s j = skip s k ∧ wr = w.alloc (.cells KZ 105)) (fun i _ => s.size - (intOf i).toNat)
  case atStart => exact ⟨k, rfl, hk, rfl, rfl⟩
  case round =>
    obtain ⟨j, rfl, hj, hsk, rfl⟩ := hrel
    by_cases c32 : nx s j = 32
    · have hlt := nx_lt (s := s) (k := j) (by omega)
      have hq : ((s[j].toNat : Nat) : Int) = 32 := by rw [nx_in hlt] at c32; omega
      have hq' : (((s[j].toNat : Nat) : Int) == 32) = true := by rw [beq_iff_eq]; exact hq
      have HS : Hid (skip s j = skip s k) := hsk
      have HC : Hid (nx s j = 32) := c32
      clear hsk c32 hq 
      go_wp2_with fail
      exact ⟨⟨j + 1, by simp, hlt, by rw [← HS.out, skip_blank HC.out], trivial⟩, by simp [intOf]; omega⟩
    · have hja : j = skip s k := by rw [← hsk, skip_else c32]
      subst hja
      clear hsk
      have hq2 : (((skip s k : Nat) : Int) == (s.size : Int)) = false := by rw [beq_eq_false_iff_ne]; omega
      have hb : (((s[skip s k].toNat : Nat) : Int) == 32) = false := by rw [beq_eq_false_iff_ne, ← nx_in hlt0]; omega
      have h34 : (((nx s (skip s k) : Nat) : Int) == 34) = false := by rw [beq_eq_false_iff_ne]; have := HG.out.2.1; omega
      have h35 : (((nx s (skip s k) : Nat) : Int) == 35) = false := by rw [beq_eq_false_iff_ne]; have := HG.out.2.2; omega
      clear c32
      go_wp2_with fail
      rw [← nx_in hlt0]
      refine (wordly_any _ _).mono ?_
      rintro e w1 ⟨rfl, rfl⟩
      rw [HG.out.1]
      have t0 : ((s.extract (skip s k) (skip s k + 2)).toList == [60, 62]) = false := by rw [show ([60, 62] : List UInt8) = [UInt8.ofNat 60, UInt8.ofNat 62] from rfl, two_is s _ 60 62 hle (by omega) (by omega), HXY.out.1, HXY.out.2]; rfl
      have t1 : ((s.extract (skip s k) (skip s k + 2)).toList == [60, 61]) = true := by rw [show ([60, 61] : List UInt8) = [UInt8.ofNat 60, UInt8.ofNat 61] from rfl, two_is s _ 60 61 hle (by omega) (by omega), HXY.out.1, HXY.out.2]; rfl
      clear HXY
      go_wp2_with fail
      exact bodyPost_ret (v := KV 4 (skip s k : Nat) ((skip s k : Nat) + 2) (s.extract (skip s k) (skip s k + 2))) (by simp [results, Tryz.results54, go_sem]) rfl ⟨rfl, by (repeat (first | exact Below.refl _ _ | assumption | (refine Below.setCell ?_ (by first | omega | (simp <;> omega)) _) | (refine Below.alloc ?_ (by first | omega | (simp <;> omega)) _) | (refine Below.drew ?_)))⟩
set_option maxRecDepth 100000 in
set_option maxHeartbeats 4000000 in
theorem token_sign_ge (s : ByteArray) (k : Nat) (w : World) (hs : s.size ≤ 200) (hk : k ≤ s.size) (hlt0 : skip s k < s.size) (hxy : nx s (skip s k) = 62 ∧ nx s (skip s k + 1) = 61) :
    Calls Tryz.prog 54 #[.string s, .int .i64 k] w fun e w' => e = .returned (KV 4 (skip s k : Nat) ((skip s k : Nat) + 2) (s.extract (skip s k) (skip s k + 2))) ∧ Below w.heap.size w w' := by
  have hb0 : Below w.heap.size w (w.alloc (.cells KZ 105)) := (Below.refl _ _).alloc (Nat.le_refl _) _
  have hk1 := (skip_spec s k).2.2 hk
  have hle : skip s k + 2 ≤ s.size := by have := nx_lt (s := s) (k := skip s k + 1) (by omega); omega
  have hleI : ((skip s k : Nat) : Int) + 2 ≤ (s.size : Int) := by omega
  have HXY : Hid (nx s (skip s k) = 62 ∧ nx s (skip s k + 1) = 61) := hxy
  have HG : Hid (isW (nx s (skip s k)) = false ∧ nx s (skip s k) ≠ 34 ∧ nx s (skip s k) ≠ 35) := by unfold Hid; rw [hxy.1]; exact ⟨by decide, by omega, by omega⟩
  clear hxy
  go_enter Tryz.func54, Tryz.ntmps54
  go_wp2_with fail
  go_loopw [1] (fun i wr => ∃ j : Nat, i = .int .i64 j ∧ j ≤ s.size ∧ skip s j = skip s k ∧ wr = w.alloc (.cells KZ 105)) (fun i _ => s.size - (intOf i).toNat)
  case atStart => exact ⟨k, rfl, hk, rfl, rfl⟩
  case round =>
    obtain ⟨j, rfl, hj, hsk, rfl⟩ := hrel
    by_cases c32 : nx s j = 32
    · have hlt := nx_lt (s := s) (k := j) (by omega)
      have hq : ((s[j].toNat : Nat) : Int) = 32 := by rw [nx_in hlt] at c32; omega
      have hq' : (((s[j].toNat : Nat) : Int) == 32) = true := by rw [beq_iff_eq]; exact hq
      have HS : Hid (skip s j = skip s k) := hsk
      have HC : Hid (nx s j = 32) := c32
      clear hsk c32 hq 
      go_wp2_with fail
      exact ⟨⟨j + 1, by simp, hlt, by rw [← HS.out, skip_blank HC.out], trivial⟩, by simp [intOf]; omega⟩
    · have hja : j = skip s k := by rw [← hsk, skip_else c32]
      subst hja
      clear hsk
      have hq2 : (((skip s k : Nat) : Int) == (s.size : Int)) = false := by rw [beq_eq_false_iff_ne]; omega
      have hb : (((s[skip s k].toNat : Nat) : Int) == 32) = false := by rw [beq_eq_false_iff_ne, ← nx_in hlt0]; omega
      have h34 : (((nx s (skip s k) : Nat) : Int) == 34) = false := by rw [beq_eq_false_iff_ne]; have := HG.out.2.1; omega
      have h35 : (((nx s (skip s k) : Nat) : Int) == 35) = false := by rw [beq_eq_false_iff_ne]; have := HG.out.2.2; omega
      clear c32
      go_wp2_with fail
      rw [← nx_in hlt0]
      refine (wordly_any _ _).mono ?_
      rintro e w1 ⟨rfl, rfl⟩
      rw [HG.out.1]
      have t0 : ((s.extract (skip s k) (skip s k + 2)).toList == [60, 62]) = false := by rw [show ([60, 62] : List UInt8) = [UInt8.ofNat 60, UInt8.ofNat 62] from rfl, two_is s _ 60 62 hle (by omega) (by omega), HXY.out.1, HXY.out.2]; rfl
      have t1 : ((s.extract (skip s k) (skip s k + 2)).toList == [60, 61]) = false := by rw [show ([60, 61] : List UInt8) = [UInt8.ofNat 60, UInt8.ofNat 61] from rfl, two_is s _ 60 61 hle (by omega) (by omega), HXY.out.1, HXY.out.2]; rfl
      have t2 : ((s.extract (skip s k) (skip s k + 2)).toList == [62, 61]) = true := by rw [show ([62, 61] : List UInt8) = [UInt8.ofNat 62, UInt8.ofNat 61] from rfl, two_is s _ 62 61 hle (by omega) (by omega), HXY.out.1, HXY.out.2]; rfl
      clear HXY
      go_wp2_with fail
      exact bodyPost_ret (v := KV 4 (skip s k : Nat) ((skip s k : Nat) + 2) (s.extract (skip s k) (skip s k + 2))) (by simp [results, Tryz.results54, go_sem]) rfl ⟨rfl, by (repeat (first | exact Below.refl _ _ | assumption | (refine Below.setCell ?_ (by first | omega | (simp <;> omega)) _) | (refine Below.alloc ?_ (by first | omega | (simp <;> omega)) _) | (refine Below.drew ?_)))⟩
set_option maxRecDepth 100000 in
set_option maxHeartbeats 4000000 in
theorem token_sign_one (s : ByteArray) (k : Nat) (w : World) (hs : s.size ≤ 200) (hk : k ≤ s.size) (hlt0 : skip s k < s.size) (hg : isW (nx s (skip s k)) = false ∧ nx s (skip s k) ≠ 34 ∧ nx s (skip s k) ≠ 35) (hn : ¬ (nx s (skip s k) = 60 ∧ nx s (skip s k + 1) = 62) ∧ ¬ (nx s (skip s k) = 60 ∧ nx s (skip s k + 1) = 61) ∧ ¬ (nx s (skip s k) = 62 ∧ nx s (skip s k + 1) = 61)) :
    Calls Tryz.prog 54 #[.string s, .int .i64 k] w fun e w' => e = .returned (KV 4 (skip s k : Nat) ((skip s k : Nat) + 1) (s.extract (skip s k) (skip s k + 1))) ∧ Below w.heap.size w w' := by
  have hb0 : Below w.heap.size w (w.alloc (.cells KZ 105)) := (Below.refl _ _).alloc (Nat.le_refl _) _
  have hk1 := (skip_spec s k).2.2 hk
  have HG : Hid (isW (nx s (skip s k)) = false ∧ nx s (skip s k) ≠ 34 ∧ nx s (skip s k) ≠ 35) := hg
  clear hg
  have HN : Hid (¬ (nx s (skip s k) = 60 ∧ nx s (skip s k + 1) = 62) ∧ ¬ (nx s (skip s k) = 60 ∧ nx s (skip s k + 1) = 61) ∧ ¬ (nx s (skip s k) = 62 ∧ nx s (skip s k + 1) = 61)) := hn
  clear hn
  go_enter Tryz.func54, Tryz.ntmps54
  go_wp2_with fail
  go_loopw [1] (fun i wr => ∃ j : Nat, i = .int .i64 j ∧ j ≤ s.size ∧ skip s j = skip s k ∧ wr = w.alloc (.cells KZ 105)) (fun i _ => s.size - (intOf i).toNat)
  case atStart => exact ⟨k, rfl, hk, rfl, rfl⟩
  case round =>
    obtain ⟨j, rfl, hj, hsk, rfl⟩ := hrel
    by_cases c32 : nx s j = 32
    · have hlt := nx_lt (s := s) (k := j) (by omega)
      have hq : ((s[j].toNat : Nat) : Int) = 32 := by rw [nx_in hlt] at c32; omega
      have hq' : (((s[j].toNat : Nat) : Int) == 32) = true := by rw [beq_iff_eq]; exact hq
      have HS : Hid (skip s j = skip s k) := hsk
      have HC : Hid (nx s j = 32) := c32
      clear hsk c32 hq 
      go_wp2_with fail
      exact ⟨⟨j + 1, by simp, hlt, by rw [← HS.out, skip_blank HC.out], trivial⟩, by simp [intOf]; omega⟩
    · have hja : j = skip s k := by rw [← hsk, skip_else c32]
      subst hja
      clear hsk
      have hq2 : (((skip s k : Nat) : Int) == (s.size : Int)) = false := by rw [beq_eq_false_iff_ne]; omega
      have hb : (((s[skip s k].toNat : Nat) : Int) == 32) = false := by rw [beq_eq_false_iff_ne, ← nx_in hlt0]; omega
      have h34 : (((nx s (skip s k) : Nat) : Int) == 34) = false := by rw [beq_eq_false_iff_ne]; have := HG.out.2.1; omega
      have h35 : (((nx s (skip s k) : Nat) : Int) == 35) = false := by rw [beq_eq_false_iff_ne]; have := HG.out.2.2; omega
      clear c32
      go_wp2_with fail
      rw [← nx_in hlt0]
      refine (wordly_any _ _).mono ?_
      rintro e w1 ⟨rfl, rfl⟩
      rw [HG.out.1]
      by_cases hle : skip s k + 2 ≤ s.size
      · have hleI : ((skip s k : Nat) : Int) + 2 ≤ (s.size : Int) := by omega
        have t0 : ((s.extract (skip s k) (skip s k + 2)).toList == [60, 62]) = false := by rw [show ([60, 62] : List UInt8) = [UInt8.ofNat 60, UInt8.ofNat 62] from rfl, two_is s _ 60 62 hle (by omega) (by omega)]; have := HN.out; simp; omega
        have t1 : ((s.extract (skip s k) (skip s k + 2)).toList == [60, 61]) = false := by rw [show ([60, 61] : List UInt8) = [UInt8.ofNat 60, UInt8.ofNat 61] from rfl, two_is s _ 60 61 hle (by omega) (by omega)]; have := HN.out; simp; omega
        have t2 : ((s.extract (skip s k) (skip s k + 2)).toList == [62, 61]) = false := by rw [show ([62, 61] : List UInt8) = [UInt8.ofNat 62, UInt8.ofNat 61] from rfl, two_is s _ 62 61 hle (by omega) (by omega)]; have := HN.out; simp; omega
        clear HN
        go_wp2_with fail
        exact bodyPost_ret (v := KV 4 (skip s k : Nat) ((skip s k : Nat) + 1) (s.extract (skip s k) (skip s k + 1))) (by simp [results, Tryz.results54, go_sem]) rfl ⟨rfl, by (repeat (first | exact Below.refl _ _ | assumption | (refine Below.setCell ?_ (by first | omega | (simp <;> omega)) _) | (refine Below.alloc ?_ (by first | omega | (simp <;> omega)) _) | (refine Below.drew ?_)))⟩
      · have hleI : ¬ ((skip s k : Nat) : Int) + 2 ≤ (s.size : Int) := by omega
        clear HN
        go_wp2_with fail
        exact bodyPost_ret (v := KV 4 (skip s k : Nat) ((skip s k : Nat) + 1) (s.extract (skip s k) (skip s k + 1))) (by simp [results, Tryz.results54, go_sem]) rfl ⟨rfl, by (repeat (first | exact Below.refl _ _ | assumption | (refine Below.setCell ?_ (by first | omega | (simp <;> omega)) _) | (refine Below.alloc ?_ (by first | omega | (simp <;> omega)) _) | (refine Below.drew ?_)))⟩
end Go.Proofs.YtomgjjngkffbbaaGreatDoor.fm
