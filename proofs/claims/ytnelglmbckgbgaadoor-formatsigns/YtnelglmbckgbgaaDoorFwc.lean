
/- The document's Letters, walked. Conditions: as each theorem says. -/
import Derived.Test.YtnelglmbckgbgaaDoorFwa
namespace Go.Proofs.YtnelglmbckgbgaaDoor.fw
open Go.RowKit Go.Sort
/-- The letters of a column. -/
def letL (n : Nat) : List UInt8 := if _h : n = 0 then [] else letL ((n - 1) / 26) ++ [UInt8.ofNat (65 + (n - 1) % 26)]
termination_by n
decreasing_by omega
theorem letL_zero : letL 0 = [] := by unfold letL; rw [dif_pos rfl]
theorem letL_pos {n : Nat} (h : 0 < n) : letL n = letL ((n - 1) / 26) ++ [UInt8.ofNat (65 + (n - 1) % 26)] := by
  conv => lhs; unfold letL
  rw [dif_neg (by omega)]
theorem txt_size (l : List UInt8) : (txt l).size = l.length := rfl
theorem txt_cons (b : UInt8) (t : List UInt8) : txt [b] ++ txt t = txt (b :: t) := by
  unfold txt
  apply ByteArray.ext
  simp
theorem one_text (w : World) (d : Nat) (hd : d < 256) : (convert 37 9 (.slice (some ⟨w.heap.size, 0, none⟩) 1 1)).run Tryd.prog (w.alloc (.cells #[.int .u8 (d : Int)] 5)) = .ok (.string (txt [UInt8.ofNat d])) (w.alloc (.cells #[.int .u8 (d : Int)] 5)) := by
  have h1 := run_convert_bytes_back (P := Tryd.prog) (w.alloc (.cells #[.int .u8 (d : Int)] 5)) 37 9 5 ⟨w.heap.size, 0, none⟩ 1 [UInt8.ofNat d] Tryd.underlying37 Tryd.underlying5 Tryd.underlying9 (fun j hj => by
    have : j = 0 := by simp at hj; omega
    subst this
    have hb := heap_alloc_new w (.cells #[.int .u8 (d : Int)] 5)
    have e : (UInt8.ofNat d).toNat = d := by rw [UInt8.toNat_ofNat']; exact Nat.mod_eq_of_lt hd
    show World.cell? _ ⟨w.heap.size, 0, none⟩ = some (.int .u8 ((UInt8.ofNat d).toNat : Int))
    rw [e]
    simp only [World.cell?, hb]
    rfl)
  exact h1
set_option maxRecDepth 100000 in
set_option maxHeartbeats 4000000 in
theorem rletters_any (col : Nat) (w : World) (hc : col ≤ 1000000) :
    Calls Tryd.prog 8 #[.int .i64 (col : Int)] w fun e w' => e = .returned (.string (txt (letL col))) ∧ Bw w w' := by
  obtain ⟨R, hR⟩ : ∃ R, letL col = R := ⟨_, rfl⟩
  have HR : Hid (letL col = R) := hR
  rw [hR]
  clear hR
  go_enter Tryd.func8, Tryd.ntmps8
  go_wp2_with fail
  go_loopw [0, 3] (fun s0 s3 wr => ∃ (n : Nat) (t : List UInt8), s0 = .int .i64 (n : Int) ∧ n ≤ 1000000 ∧ s3 = .string (txt t) ∧ Hid (letL n ++ t = R) ∧ Hid (Bw w wr) ∧ t.length + n ≤ 1000000) (fun s0 _ _ => (intOf s0).toNat)
  case atStart => exact ⟨col, [], rfl, hc, rfl, by show _ = _; rw [List.append_nil]; exact HR.out, Below.refl _ _, by simpa using hc⟩
  case round =>
    obtain ⟨n, t, rfl, hn, rfl, HT, HB, htl⟩ := hrel
    by_cases hp : 0 < n
    · have hp' : (n : Int) > 0 := by omega
      obtain ⟨d, hd⟩ : ∃ d, (n - 1) % 26 + 1 = d := ⟨_, rfl⟩
      obtain ⟨q, hq⟩ : ∃ q, (n - 1) / 26 = q := ⟨_, rfl⟩
      have hnd : n = q * 26 + d := by omega
      have hd1 : 1 ≤ d := by omega
      have hd2 : d ≤ 26 := by omega
      have HT2 : Hid (letL q ++ (UInt8.ofNat (64 + d) :: t) = R) := by
        show _ = _
        rw [← HT.out, letL_pos hp, hq, show 65 + (n - 1) % 26 = 64 + d by omega]
        simp
      have er : (n : Int).tmod 26 = ((n % 26 : Nat) : Int) := by rw [Int.tmod_eq_emod_of_nonneg (by omega)]; omega
      have eq' : ((n : Int) - (d : Int)).tdiv 26 = (q : Int) := by rw [Int.tdiv_eq_ediv_of_nonneg (by omega)]; omega
      have HND : Hid (n = q * 26 + d) := hnd
      have hq' : q ≤ 1000000 := by omega
      have hqn : q < n := by omega
      by_cases h0 : n % 26 = 0
      · have hdd : d = 26 := by omega
        subst hdd
        have er0 : (n : Int).tmod 26 = 0 := by rw [er, h0]; rfl
        have hcv : (convert 37 9 (.slice (some ⟨wr.heap.size, 0, none⟩) 1 1)).run Tryd.prog (wr.alloc (.cells #[.int .u8 90] 5)) = .ok (.string (txt [UInt8.ofNat 90])) (wr.alloc (.cells #[.int .u8 90] 5)) := one_text wr 90 (by omega)
        have htx := txt_cons (UInt8.ofNat 90) t
        have HT3 : Hid (letL q ++ (UInt8.ofNat 90 :: t) = R) := HT2
        generalize UInt8.ofNat 90 = B at *
        have HB2 : Hid (Bw w (wr.alloc (.cells #[.int .u8 90] 5))) := HB.out.tr (Bw.al _ _)
        have eq2 : ((n : Int) - 26).tdiv 26 = (q : Int) := eq'
        have hw1 : (0 : Int) ≤ (n : Int) - 26 := by omega
        have hsz : ¬ 9223372036854775807 < (txt [B]).size + (txt t).size := by rw [txt_size, txt_size]; simp; omega
        clear er hnd HT hd hq h0 eq' HB
        go_wp2_with fail
        exact ⟨⟨q, B :: t, rfl, hq', by rw [← htx], HT3, HB2, by simp; omega⟩, by simp [intOf]; omega⟩
      · have hdd : n % 26 = d := by omega
        have er0 : (n : Int).tmod 26 = (d : Int) := by rw [er, hdd]
        have hd0 : ((d : Int) == 0) = false := by simp; omega
        have hcv : (convert 37 9 (.slice (some ⟨wr.heap.size, 0, none⟩) 1 1)).run Tryd.prog (wr.alloc (.cells #[.int .u8 (64 + (d : Int))] 5)) = .ok (.string (txt [UInt8.ofNat (64 + d)])) (wr.alloc (.cells #[.int .u8 (64 + (d : Int))] 5)) := by
          have := one_text wr (64 + d) (by omega)
          rwa [show ((64 + d : Nat) : Int) = 64 + (d : Int) from by omega] at this
        have hu8 : IntKind.u8.wrap (64 + (d : Int)) = 64 + (d : Int) := by first | (rw [IntKind.wrap_u8]; omega) | (unfold IntKind.wrap; simp; omega) | (show (64 + (d : Int)) % 256 = _; omega)
        have htx := txt_cons (UInt8.ofNat (64 + d)) t
        generalize UInt8.ofNat (64 + d) = B at *
        have HB2 : Hid (Bw w (wr.alloc (.cells #[.int .u8 (64 + (d : Int))] 5))) := HB.out.tr (Bw.al _ _)
        have hw1 : (0 : Int) ≤ (n : Int) - (d : Int) := by omega
        have hsz : ¬ 9223372036854775807 < (txt [B]).size + (txt t).size := by rw [txt_size, txt_size]; simp; omega
        clear er hnd HT hd hq h0 HB hdd
        go_wp2_with fail
        exact ⟨⟨q, B :: t, rfl, hq', by rw [← htx], HT2, HB2, by simp; omega⟩, by simp [intOf]; omega⟩
    · have hp' : ¬ (n : Int) > 0 := by omega
      have h0 : n = 0 := by omega
      subst h0
      have HE : Hid (t = R) := by show _ = _; have := HT.out; rwa [letL_zero, List.nil_append] at this
      go_wp2_with fail
      go_ret
      exact ⟨by rw [HE.out]; rfl, HB.out⟩
end Go.Proofs.YtnelglmbckgbgaaDoor.fw
