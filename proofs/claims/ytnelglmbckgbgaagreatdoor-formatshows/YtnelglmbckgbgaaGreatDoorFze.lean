
/- The document's Code at any text. Conditions: as each theorem says. -/
import Derived.Test.YtnelglmbckgbgaaGreatDoorFzd
namespace Go.Proofs.YtnelglmbckgbgaaGreatDoor.fw
open Go.RowKit Go.Sort
theorem FB.new (w : World) : FB w ⟨#[]⟩ ⟨#[]⟩ false 0 0 ((w.alloc (.cells #[.string ⟨#[]⟩, .string ⟨#[]⟩, .bool false, .int .i64 0, .int .i64 0] 26)).alloc (.cells #[.string ⟨#[]⟩, .string ⟨#[]⟩, .bool false, .int .i64 0, .int .i64 0] 26)) := by
  refine ⟨?_, ?_, (Bw.al _ _).tr (Bw.al _ _)⟩
  · rw [(Bw.al (w.alloc _) _).block _ (by simp)]
    exact heap_alloc_new w _
  · have h := heap_alloc_new (w.alloc (.cells #[.string ⟨#[]⟩, .string ⟨#[]⟩, .bool false, .int .i64 0, .int .i64 0] 26)) (.cells #[.string ⟨#[]⟩, .string ⟨#[]⟩, .bool false, .int .i64 0, .int .i64 0] 26)
    rw [World.size_alloc] at h
    exact h
set_option maxRecDepth 1000000 in
set_option maxHeartbeats 8000000 in
theorem rcode_any (S : ByteArray) (w0 : World) : Calls Tryz.prog 5 #[.string S] w0 fun e w' => RCo (rcL S.toList) e ∧ Bw w0 w' := by
  obtain ⟨O, hO⟩ : ∃ O, rcL S.toList = O := ⟨_, rfl⟩
  have HO : Hid (rcL S.toList = O) := hO
  rw [hO]
  clear hO
  have HSL : Hid (S.toList.length = S.size) := size_list S
  have HB0 := FB.new w0
  by_cases h40 : 40 < S.size
  · have h40' : (S.size : Int) > 40 := by omega
    have hO : O = none := by rw [← HO.out]; unfold rcL; rw [if_pos (by rw [HSL.out]; exact h40)]
    subst hO
    clear HO
    go_enter Tryz.func5, Tryz.ntmps5
    go_upto_region 2 with fail
    generalize ((w0.alloc (.cells #[.string ⟨#[]⟩, .string ⟨#[]⟩, .bool false, .int .i64 0, .int .i64 0] 26)).alloc (.cells #[.string ⟨#[]⟩, .string ⟨#[]⟩, .bool false, .int .i64 0, .int .i64 0] 26)) = w at *
    have HB : Hid (FB w0 ⟨#[]⟩ ⟨#[]⟩ false 0 0 w) := HB0
    clear HB0
    obtain ⟨c0, c1, c2, c3, c4⟩ := HB.out.cells
    obtain ⟨r0, r1, r2, r3, r4⟩ := HB.out.rcells
    have ff := fun o => (HB.out.free o).2
    go_wp2_with fail
    exact bodyPost_ret (v := .tuple #[.agg #[.string ⟨#[]⟩, .string ⟨#[]⟩, .bool false, .int .i64 0, .int .i64 0], .bool false]) (by simp [results, Tryz.results5, go_sem, r0, r1, r2, r3, r4]) rfl ⟨⟨_, _, _, _, _, rfl⟩, (((((HB.out.below).set _ _ _ (Nat.le_refl _)).set _ _ _ (Nat.le_refl _)).set _ _ _ (Nat.le_refl _)).set _ _ _ (Nat.le_refl _)).set _ _ _ (Nat.le_refl _)⟩
  · have h40' : ¬ (S.size : Int) > 40 := by omega
    have hS : S.size ≤ 40 := by omega
    have HO1 : Hid (o17 (cqL S.toList).1 (ccL (cqL S.toList).2).1 (ccL (cqL S.toList).2).2 = O) := by
      show _ = _
      rw [← HO.out]
      have h9 : ¬ 40 < S.toList.length := by rw [HSL.out]; exact h40
      unfold rcL o17
      rw [if_neg h9]
    clear HO
    go_enter Tryz.func5, Tryz.ntmps5
    let BPX := bodyPost Tryz.prog Tryz.f5 (fun _ _ => True)
    go_upto_region 2 with fail
    generalize ((w0.alloc (.cells #[.string ⟨#[]⟩, .string ⟨#[]⟩, .bool false, .int .i64 0, .int .i64 0] 26)).alloc (.cells #[.string ⟨#[]⟩, .string ⟨#[]⟩, .bool false, .int .i64 0, .int .i64 0] 26)) = w at *
    have HB : Hid (FB w0 (txt []) ⟨#[]⟩ false 0 0 w) := HB0
    clear HB0
    go_upto_region 5 with fail
    obtain ⟨r, hr⟩ : ∃ r, S.toList = r := ⟨_, rfl⟩
    have HR : Hid (S.toList = r) := hr
    have hrl : r.length = S.size := by rw [← hr]; exact HSL.out
    rw [hr] at HO1
    clear hr
    obtain ⟨B, hB⟩ : ∃ B, decide (r.head? = some 34) = B := ⟨_, rfl⟩
    have HBB : Hid (decide (r.head? = some 34) = B) := hB
    clear hB
    go_cut [22] (fun s22 wx => s22 = .bool B ∧ wx = w)
    case first =>
      by_cases hlt : 0 < S.size
      · have hlt'' : (0 : Int) < (S.size : Int) := by omega
        have hhd : r.head? = some S[0] := by have := head_at hlt; rw [List.drop_zero, HR.out] at this; exact this
        by_cases h34 : S[0] = 34
        · have hx : ((S[0].toNat : Int) == 34) = true := by rw [h34]; rfl
          have hBt : B = true := by rw [← HBB.out, hhd, h34]; rfl
          clear hhd h34
          go_wp2_with fail
          go_meet
          case rel => exact ⟨by rw [hBt], rfl⟩
        · have hx : ((S[0].toNat : Int) == 34) = false := byte_ne (y := 34) (by decide) h34
          have hBt : B = false := by rw [← HBB.out, hhd]; simpa using h34
          clear hhd h34
          go_wp2_with fail
          go_meet
          case rel => exact ⟨by rw [hBt], rfl⟩
      · have hlt'' : ¬ (0 : Int) < (S.size : Int) := by omega
        have hr0 : r = [] := List.eq_nil_of_length_eq_zero (by omega)
        have hBt : B = false := by rw [← HBB.out, hr0]; rfl
        clear hr0
        go_wp2_with fail
        go_meet
        case rel => exact ⟨by rw [hBt], rfl⟩
    case rest =>
    obtain ⟨rfl, rfl⟩ := hcut
    apply_assumption
    go_cut [5] (fun s5 wx => ∃ (i' : Nat) (A1 : List UInt8), s5 = .int .i64 (i' : Int) ∧ i' ≤ S.size ∧ Hid (FB w0 (txt A1) ⟨#[]⟩ false 0 0 wx) ∧ Hid (o17 A1 (ccL (S.toList.drop i')).1 (ccL (S.toList.drop i')).2 = O))
    case first =>
      cases B with
      | false =>
        have hne : ¬ r.head? = some 34 := by simpa using HBB.out
        have hcq : cqL r = ([], r) := by unfold cqL; rw [if_neg hne]
        have HO2 : Hid (o17 [] (ccL (S.toList.drop 0)).1 (ccL (S.toList.drop 0)).2 = O) := by
          show _ = _
          rw [← HO1.out, hcq, List.drop_zero, HR.out]
        clear hne hcq
        go_wp2_with fail
        go_meet
        case rel => exact ⟨0, [], rfl, by omega, HB, HO2⟩
      | true =>
        have hhd : r.head? = some 34 := by simpa using HBB.out
        have hlt : 0 < S.size := by
          rcases Nat.eq_zero_or_pos S.size with h | h
          · have hr0 : r = [] := List.eq_nil_of_length_eq_zero (by omega)
            rw [hr0] at hhd
            cases hhd
          · exact h
        have hcq : cqL r = (splitQ r.tail).getD ([], r) := by unfold cqL; rw [if_pos hhd]
        have HCC : Hid (ccL r = (false, r) ∧ czL r = (0, r)) := by
          have h1 := head_cons hhd
          refine ⟨?_, ?_⟩
          · unfold ccL
            rw [if_neg]
            rw [h1]
            simp [Lib.hasPrefix, List.isPrefixOf]
          · exact cz_at (Nat.zero_le _) (fun q hq => by omega) (by rw [h1]; simp)
        obtain ⟨rt, hrt⟩ : ∃ rt, r.tail = rt := ⟨_, rfl⟩
        have hrtl : rt.length = S.size - 1 := by rw [← hrt, List.length_tail]; omega
        have HRT : Hid (S.toList.drop 1 = rt) := by show _ = _; rw [← hrt, HR.out, List.drop_one]
        have HRA : Hid (∀ j, rt[j]? = S.toList[1 + j]?) := fun j => by rw [← HRT.out, List.getElem?_drop]
        rw [hcq, hrt] at HO1
        clear hrt hcq hhd
        go_upto_block 0 with fail
        go_cut [5] (fun s5 wx => ∃ j : Nat, s5 = .int .i64 ((1 + j : Nat) : Int) ∧ wx = wc ∧ 1 + j ≤ S.size ∧ Hid ((1 + j = S.size ∧ splitQ rt = none) ∨ (1 + j < S.size ∧ splitQ rt = some (rt.take j, rt.drop (j + 1)))))
        case first =>
          generalize wc = wo at *
          go_wp2_with fail
          go_loopw [5] (fun s5 wr => ∃ j : Nat, s5 = .int .i64 ((1 + j : Nat) : Int) ∧ 1 + j ≤ S.size ∧ wr = wo ∧ Hid (∀ q, q < j → rt[q]? ≠ some 34)) (fun s5 _ => S.size - (intOf s5).toNat)
          case atStart => exact ⟨0, by simp, by omega, rfl, fun q hq => by omega⟩
          case round =>
            obtain ⟨j, rfl, hj, rfl, HJ⟩ := hrel
            obtain ⟨m, hm⟩ : ∃ m, 1 + j = m := ⟨_, rfl⟩
            have HM : Hid (1 + j = m) := hm
            rw [hm] at hj ⊢
            clear hm
            by_cases hml : m < S.size
            · have hml' : (m : Int) < (S.size : Int) := by omega
              have hm0 : (0 : Int) ≤ (m : Int) := by omega
              have hat : rt[j]? = some S[m] := by rw [HRA.out, HM.out]; exact at_list hml
              by_cases hq4 : S[m] = 34
              · have hx4 : ((S[m].toNat : Int) == 34) = true := by rw [hq4]; rfl
                have hsp := sq_some HJ.out (by rw [hat, hq4])
                have HSP : Hid ((m = S.size ∧ splitQ rt = none) ∨ (m < S.size ∧ splitQ rt = some (rt.take j, rt.drop (j + 1)))) := .inr ⟨hml, hsp⟩
                clear hsp hat hq4
                go_wp2_with fail
                go_meet
                case rel => exact ⟨j, by rw [HM.out], rfl, by rw [HM.out]; exact hj, by rw [HM.out]; exact HSP⟩
              · have hx4 : ((S[m].toNat : Int) == 34) = false := byte_ne (y := 34) (by decide) hq4
                have HJ2 : Hid (∀ q, q < j + 1 → rt[q]? ≠ some 34) := fun q hq => by
                  rcases Nat.lt_or_ge q j with h | h
                  · exact HJ.out q h
                  · have : q = j := by omega
                    subst this
                    rw [hat]
                    intro e
                    exact hq4 (Option.some.inj e)
                clear hat hq4
                go_wp2_with fail
                exact ⟨⟨j + 1, by have := HM.out; congr 1; omega, by have := HM.out; omega, trivial, HJ2⟩, by simp [intOf]; omega⟩
            · have hml' : ¬ (m : Int) < (S.size : Int) := by omega
              have hsp : splitQ rt = none := sq_none (fun q hq => HJ.out q (by have := HM.out; omega))
              have HSP : Hid ((m = S.size ∧ splitQ rt = none) ∨ (m < S.size ∧ splitQ rt = some (rt.take j, rt.drop (j + 1)))) := .inl ⟨by omega, hsp⟩
              clear hsp
              go_wp2_with fail
              go_meet
              case rel => exact ⟨j, by rw [HM.out], rfl, by rw [HM.out]; exact hj, by rw [HM.out]; exact HSP⟩
        case rest =>
        obtain ⟨j, rfl, rfl, hj, HSP⟩ := hcut
        apply_assumption
        generalize wc = wo at *
        obtain ⟨m, hm⟩ : ∃ m, 1 + j = m := ⟨_, rfl⟩
        have HM : Hid (1 + j = m) := hm
        rw [hm] at hj HSP ⊢
        clear hm
        obtain ⟨c0, c1, c2, c3, c4⟩ := HB.out.cells
        obtain ⟨r0, r1, r2, r3, r4⟩ := HB.out.rcells
        have ff := fun o => (HB.out.free o).2
        have fg := fun o => (HB.out.free o).1
        by_cases hme : m = S.size
        · have hO : O = none := by
            rw [← HO1.out]
            rcases HSP.out with ⟨-, h⟩ | ⟨h, -⟩
            · rw [h, Option.getD_none]
              unfold o17
              rw [if_pos]
              left
              rw [HCC.out.1, HCC.out.2]
            · omega
          have hm3 : ((m : Int) == (S.size : Int)) = true := by simp; omega
          subst hO
          clear HSP HO1 HRA HRT HCC
          go_wp2_with fail
          exact bodyPost_ret (v := .tuple #[.agg #[.string (txt []), .string ⟨#[]⟩, .bool false, .int .i64 0, .int .i64 0], .bool false]) (by simp [results, Tryz.results5, go_sem, r0, r1, r2, r3, r4]) rfl ⟨⟨_, _, _, _, _, rfl⟩, (((((HB.out.below).set _ _ _ (Nat.le_refl _)).set _ _ _ (Nat.le_refl _)).set _ _ _ (Nat.le_refl _)).set _ _ _ (Nat.le_refl _)).set _ _ _ (Nat.le_refl _)⟩
        · have hsp : splitQ rt = some (rt.take j, rt.drop (j + 1)) := by
            rcases HSP.out with ⟨h, -⟩ | ⟨-, h⟩
            · exact absurd h hme
            · exact h
          have hm3 : ((m : Int) == (S.size : Int)) = false := by simp; omega
          have hex : S.extract 1 m = txt (rt.take j) := by
            rw [← HM.out, ext_take, HRT.out]
          have HO2 : Hid (o17 (rt.take j) (ccL (S.toList.drop (m + 1))).1 (ccL (S.toList.drop (m + 1))).2 = O) := by
            show _ = _
            rw [← HO1.out, hsp, Option.getD_some]
            have e : rt.drop (j + 1) = S.toList.drop (m + 1) := by rw [← HRT.out, List.drop_drop, ← HM.out, Nat.add_assoc]
            rw [e]
          have HF2 : Hid (FB w0 (txt (rt.take j)) ⟨#[]⟩ false 0 0 (wo.setCell ⟨w0.heap.size + 1, 0, none⟩ (.string (txt (rt.take j))))) := HB.out.set 0 _ rfl
          have hm1 : (1 : Int) ≤ (m : Int) := by have := HM.out; omega
          have hm2 : (m : Int) ≤ (S.size : Int) := by omega
          have hm4 : m + 1 ≤ S.size := by omega
          have hm5 : 1 ≤ m := by have := HM.out; omega
          clear hsp HSP HO1 HRA HRT HCC
          obtain ⟨A1, hA1⟩ : ∃ A1, rt.take j = A1 := ⟨_, rfl⟩
          rw [hA1] at hex HO2 HF2
          clear hA1
          go_wp2_with fail
          go_meet
          case rel => exact ⟨m + 1, A1, by congr 1, hm4, HF2, HO2⟩
    case rest =>
    obtain ⟨i', A1, rfl, hi', HF, HO2⟩ := hcut
    apply_assumption
    exact ctail14 w0 _ S i' O A1 HO2 HF hS hi' _ _ _ _ _ _ _ _ _ _ _ _ _ _ _ _ _ _ _ _ _ _ _ _ _ _ _ _ _ _ _ _ _ _ _ _ _ _ _ _ _ _ _ _ _ _ _ _ _ _ _ _ _ _ _ _ _ _ _ _ _ _ _ _ _ _ _ _ _ _ _ _ _ _ _ _ _ _ _ _ _ _ _ _ _ _ _ _ _ _ _ _ _ _ _ _ _ _ _ _ _ _ _ _ _ _ _ _ _ _ _ _ _ _ _ _ _ _ _ _ _ _ _ _ _ _ _ _ _ _ _ _ _ _ _ _ _ _ _ _ _ _ _ _ _ _ _ _ _ _ _ _ _ _ _ _ _ _ _ _ _ _
end Go.Proofs.YtnelglmbckgbgaaGreatDoor.fw
