
/- The document's Wide, walked. Conditions: as each theorem says. -/
import Derived.Test.YtnelglmbckgbgaaDoorFwa
namespace Go.Proofs.YtnelglmbckgbgaaDoor.fw
open Go.RowKit Go.Sort Go.Lib
/-- Blanks ahead. -/
def lft (n wide : Nat) (side : Int) : Nat := if side = 2 then wide - n else if side = 1 then (wide - n) / 2 else 0
/-- A text cut or filled. -/
def wideL (s : List UInt8) (wide : Nat) (side : Int) : List UInt8 := (List.replicate (lft s.length wide side) 32 ++ s ++ List.replicate wide 32).take wide
theorem wideL_len (s : List UInt8) (wide : Nat) (side : Int) : (wideL s wide side).length = wide := by
  unfold wideL
  rw [List.length_take, List.length_append, List.length_replicate]
  omega
theorem rep_snoc (n : Nat) (b : UInt8) : List.replicate (n + 1) b = List.replicate n b ++ [b] := List.replicate_succ'
theorem take_rep (A : List UInt8) (m wide : Nat) (h : A.length = m) : (A ++ List.replicate (wide - m) 32).take wide = (A ++ List.replicate wide 32).take wide := by
  have e : List.replicate wide (32 : UInt8) = List.replicate (wide - m) 32 ++ List.replicate (wide - (wide - m)) 32 := by rw [List.replicate_append_replicate]; congr 1; omega
  rw [e, ← List.append_assoc]
  exact (List.take_append_of_le_length (by rw [List.length_append, List.length_replicate]; omega)).symm
def lenV : Value → Nat
  | .slice _ n _ => n
  | _ => 0
set_option maxRecDepth 100000 in
set_option maxHeartbeats 4000000 in
theorem rwide_any (s : ByteArray) (wide : Nat) (side : Int) (w : World) (hw : wide ≤ 200) (hs : s.size ≤ 140737488351232) :
    Calls Tryd.prog 5 #[.string s, .int .i64 (wide : Int), .int .i64 side] w fun e w' => e = .returned (.string (txt (wideL s.toList wide side))) ∧ Bw w w' := by
  obtain ⟨R, hR⟩ : ∃ R, txt (wideL s.toList wide side) = R := ⟨_, rfl⟩
  have HR : Hid (txt (wideL s.toList wide side) = R) := hR
  rw [hR]
  clear hR
  obtain ⟨L, hL⟩ : ∃ L, lft s.size wide side = L := ⟨_, rfl⟩
  have HL : Hid (lft s.size wide side = L) := hL
  have hL200 : L ≤ 200 := by rw [← hL]; unfold lft; split <;> (try split) <;> omega
  have hLs : s.size + L ≤ 140737488355328 := by rw [← hL]; unfold lft; split <;> (try split) <;> omega
  clear hL
  by_cases h2 : side = 2
  · subst h2
    by_cases hn : s.size < wide
    · have hn' : (wide : Int) > (s.size : Int) := by omega
      have e8 : (wide : Int) - (s.size : Int) = (L : Int) := by have := HL.out; unfold lft at this; simp at this; omega
      go_enter Tryd.func5, Tryd.ntmps5
      go_upto_block 0 with fail
      go_cut [7] (fun s7 wx => Hid (BV w s7 (List.replicate L 32) wx))
      case first =>
        go_wp2_with fail
        go_loopw [7] (fun s7 wr => ∃ j : Nat, j ≤ L ∧ Hid (BV w s7 (List.replicate j 32) wr) ∧ (∃ p c, s7 = .slice p j c)) (fun s7 _ => L - lenV s7)
        case atStart => exact ⟨0, Nat.zero_le _, BV.nil w, none, 0, rfl⟩
        case round =>
          obtain ⟨j, hj, HV, p, c, rfl⟩ := hrel
          by_cases hlt : j < L
          · have hlt' : (j : Int) < (L : Int) := by omega
            obtain ⟨g2, cc, w3, hr, hV3⟩ := HV.out.one (by rw [List.length_replicate]; omega) 32
            rw [List.length_replicate] at hr hV3
            have HV3 : Hid (BV w (.slice (some ⟨g2, 0, none⟩) (j + 1) cc) (List.replicate (j + 1) 32) w3) := by show BV _ _ _ _; rw [rep_snoc]; exact hV3
            have HRR : Hid ((Builtin.append_ #[37, 37] 37 #[.slice p j c, .slice (some ⟨wr.heap.size, 0, none⟩) 1 1]).run Tryd.prog (wr.alloc (.cells #[.int .u8 32] 5)) = .ok (.slice (some ⟨g2, 0, none⟩) (j + 1) cc) w3) := hr
            clear hr hV3 HV
            go_wp2_with (first | (at_builtin; refine wpList_append_eq rfl _ _ 37 37 rfl _ _ _ _ rfl rfl HRR.out ?_))
            exact ⟨⟨j + 1, hlt, HV3, _, _, rfl⟩, by simp [lenV]; omega⟩
          · have hlt' : ¬ (j : Int) < (L : Int) := by omega
            have hjL : j = L := by omega
            subst hjL
            go_wp2_with fail
            go_meet
            case rel => exact HV
      case rest =>
      have HV : Hid (BV w u7 (List.replicate L 32) wc) := hcut
      clear hcut
      apply_assumption
      obtain ⟨v4, w4, hr4, hV4⟩ := HV.out.str s (by rw [List.length_replicate]; omega)
      obtain ⟨p3, c3, e7, -⟩ := HV.out.form
      rw [List.length_replicate] at e7
      subst e7
      have HR4 : Hid ((Builtin.append_ #[37, 9] 37 #[.slice p3 L c3, .string s]).run Tryd.prog wc = .ok v4 w4) := hr4
      obtain ⟨p4, c4, e4, -⟩ := hV4.form
      have hl4 : (List.replicate L (32 : UInt8) ++ s.toList).length = L + s.size := by rw [List.length_append, List.length_replicate, size_list]
      rw [hl4] at e4
      subst e4
      have HV4 : Hid (BV w (.slice p4 (L + s.size) c4) (List.replicate L 32 ++ s.toList) w4) := hV4
      clear hr4 hV4 HV
      obtain ⟨m, hm⟩ : ∃ m, L + s.size = m := ⟨_, rfl⟩
      have HM : Hid (L + s.size = m) := hm
      rw [hm] at HR4 HV4 hl4
      have hmb : m ≤ 140737488355328 := by omega
      clear hm
      go_upto_block 2 with (first | (at_builtin; refine wpList_append_eq rfl _ _ 37 9 rfl _ _ _ _ rfl rfl HR4.out ?_))
      go_cut [7] (fun s7 wx => ∃ n' p c, wide ≤ n' ∧ n' ≤ 140737488355328 ∧ s7 = .slice p n' c ∧ Hid (BV w s7 (List.replicate L 32 ++ s.toList ++ List.replicate (wide - m) 32) wx) ∧ Hid ((List.replicate L 32 ++ s.toList ++ List.replicate (wide - m) 32).length = n'))
      case first =>
        go_wp2_with fail
        go_loopw [7] (fun s7 wr => ∃ j : Nat, (j = 0 ∨ m + j ≤ wide) ∧ Hid (BV w s7 (List.replicate L 32 ++ s.toList ++ List.replicate j 32) wr) ∧ (∃ p c, s7 = .slice p (m + j) c)) (fun s7 _ => wide - lenV s7)
        case atStart => exact ⟨0, .inl rfl, by show BV _ _ _ _; simpa using HV4.out, p4, c4, rfl⟩
        case round =>
          obtain ⟨j, hj, HV, p, c, rfl⟩ := hrel
          have hlen : (List.replicate L (32 : UInt8) ++ s.toList ++ List.replicate j 32).length = m + j := by rw [List.length_append, hl4, List.length_replicate]
          by_cases hlt : m + j < wide
          · have hlt' : (m : Int) + (j : Int) < (wide : Int) := by omega
            obtain ⟨g2, cc, w5, hr, hV5⟩ := HV.out.one (by rw [hlen]; omega) 32
            rw [hlen] at hr hV5
            have HV5 : Hid (BV w (.slice (some ⟨g2, 0, none⟩) (m + (j + 1)) cc) (List.replicate L 32 ++ s.toList ++ List.replicate (j + 1) 32) w5) := by show BV _ _ _ _; rw [rep_snoc, ← List.append_assoc]; exact hV5
            have HRR : Hid ((Builtin.append_ #[37, 37] 37 #[.slice p (m + j) c, .slice (some ⟨wr.heap.size, 0, none⟩) 1 1]).run Tryd.prog (wr.alloc (.cells #[.int .u8 32] 5)) = .ok (.slice (some ⟨g2, 0, none⟩) (m + j + 1) cc) w5) := hr
            clear hr hV5 HV hlen
            go_wp2_with (first | (at_builtin; refine wpList_append_eq rfl _ _ 37 37 rfl _ _ _ _ rfl rfl HRR.out ?_))
            exact ⟨⟨j + 1, .inr (by omega), HV5, _, _, rfl⟩, by simp [lenV]; omega⟩
          · have hlt' : ¬ (m : Int) + (j : Int) < (wide : Int) := by omega
            have hjw : j = wide - m := by omega
            subst hjw
            go_wp2_with fail
            go_meet
            case rel => exact ⟨_, _, _, by omega, by omega, rfl, HV, hlen⟩
      case rest =>
      obtain ⟨n', p, c, hwn, hn47, rfl, HV6, HL6⟩ := hcut
      apply_assumption
      have HTX : Hid (txt ((List.replicate L 32 ++ s.toList ++ List.replicate (wide - m) 32).take wide) = R) := by
        show _ = _
        rw [← HR.out]
        unfold wideL
        rw [size_list, HL.out]
        congr 1
        exact take_rep _ m wide hl4
      have hw0 : (0 : Int) ≤ (wide : Int) := by omega
      have hw1 : (wide : Int) ≤ (n' : Int) := by omega
      obtain ⟨p6, c6, e6, hf6⟩ := HV6.out.form
      rw [HL6.out] at e6 hf6
      injection e6 with e6a _ e6b
      subst e6a e6b
      have HB6 : Hid (Bw w wc) := HV6.out.below
      rcases hf6 with ⟨h0, rfl, rfl⟩ | ⟨g, rfl, hcc⟩
      · subst h0
        obtain rfl : wide = 0 := by omega
        have hcv := nil_text wc
        have HTN : Hid (R = nul) := by show _ = _; rw [← HTX.out]; rfl
        go_wp2_with fail
        go_ret
        exact ⟨by rw [HTN.out]; rfl, HB6.out⟩
      · have hcv := HV6.out.text wide c (by rw [HL6.out]; exact hwn)
        rw [HTX.out] at hcv
        have hw2 : (wide : Int) ≤ (c : Int) := by omega
        clear HV6
        go_wp2_with fail
        go_ret
        exact ⟨rfl, HB6.out⟩
    · have hn' : ¬ (wide : Int) > (s.size : Int) := by omega
      have HL0 : Hid (L = 0) := by show _ = _; have := HL.out; unfold lft at this; simp at this; omega
      go_enter Tryd.func5, Tryd.ntmps5
      go_upto_block 0 with fail
      go_cut [7] (fun s7 wx => Hid (BV w s7 (List.replicate L 32) wx))
      case first =>
        go_wp2_with fail
        go_loopw [7] (fun s7 wr => s7 = .slice none 0 0 ∧ wr = w) (fun _ _ => 0)
        case atStart => exact ⟨rfl, rfl⟩
        case round =>
          obtain ⟨rfl, rfl⟩ := hrel
          go_wp2_with fail
          go_meet
          case rel => show BV _ _ _ _; rw [HL0.out]; exact BV.nil _
      case rest =>
      have HV : Hid (BV w u7 (List.replicate L 32) wc) := hcut
      clear hcut
      apply_assumption
      obtain ⟨v4, w4, hr4, hV4⟩ := HV.out.str s (by rw [List.length_replicate]; omega)
      obtain ⟨p3, c3, e7, -⟩ := HV.out.form
      rw [List.length_replicate] at e7
      subst e7
      have HR4 : Hid ((Builtin.append_ #[37, 9] 37 #[.slice p3 L c3, .string s]).run Tryd.prog wc = .ok v4 w4) := hr4
      obtain ⟨p4, c4, e4, -⟩ := hV4.form
      have hl4 : (List.replicate L (32 : UInt8) ++ s.toList).length = L + s.size := by rw [List.length_append, List.length_replicate, size_list]
      rw [hl4] at e4
      subst e4
      have HV4 : Hid (BV w (.slice p4 (L + s.size) c4) (List.replicate L 32 ++ s.toList) w4) := hV4
      clear hr4 hV4 HV
      obtain ⟨m, hm⟩ : ∃ m, L + s.size = m := ⟨_, rfl⟩
      have HM : Hid (L + s.size = m) := hm
      rw [hm] at HR4 HV4 hl4
      have hmb : m ≤ 140737488355328 := by omega
      clear hm
      go_upto_block 2 with (first | (at_builtin; refine wpList_append_eq rfl _ _ 37 9 rfl _ _ _ _ rfl rfl HR4.out ?_))
      go_cut [7] (fun s7 wx => ∃ n' p c, wide ≤ n' ∧ n' ≤ 140737488355328 ∧ s7 = .slice p n' c ∧ Hid (BV w s7 (List.replicate L 32 ++ s.toList ++ List.replicate (wide - m) 32) wx) ∧ Hid ((List.replicate L 32 ++ s.toList ++ List.replicate (wide - m) 32).length = n'))
      case first =>
        go_wp2_with fail
        go_loopw [7] (fun s7 wr => ∃ j : Nat, (j = 0 ∨ m + j ≤ wide) ∧ Hid (BV w s7 (List.replicate L 32 ++ s.toList ++ List.replicate j 32) wr) ∧ (∃ p c, s7 = .slice p (m + j) c)) (fun s7 _ => wide - lenV s7)
        case atStart => exact ⟨0, .inl rfl, by show BV _ _ _ _; simpa using HV4.out, p4, c4, rfl⟩
        case round =>
          obtain ⟨j, hj, HV, p, c, rfl⟩ := hrel
          have hlen : (List.replicate L (32 : UInt8) ++ s.toList ++ List.replicate j 32).length = m + j := by rw [List.length_append, hl4, List.length_replicate]
          by_cases hlt : m + j < wide
          · have hlt' : (m : Int) + (j : Int) < (wide : Int) := by omega
            obtain ⟨g2, cc, w5, hr, hV5⟩ := HV.out.one (by rw [hlen]; omega) 32
            rw [hlen] at hr hV5
            have HV5 : Hid (BV w (.slice (some ⟨g2, 0, none⟩) (m + (j + 1)) cc) (List.replicate L 32 ++ s.toList ++ List.replicate (j + 1) 32) w5) := by show BV _ _ _ _; rw [rep_snoc, ← List.append_assoc]; exact hV5
            have HRR : Hid ((Builtin.append_ #[37, 37] 37 #[.slice p (m + j) c, .slice (some ⟨wr.heap.size, 0, none⟩) 1 1]).run Tryd.prog (wr.alloc (.cells #[.int .u8 32] 5)) = .ok (.slice (some ⟨g2, 0, none⟩) (m + j + 1) cc) w5) := hr
            clear hr hV5 HV hlen
            go_wp2_with (first | (at_builtin; refine wpList_append_eq rfl _ _ 37 37 rfl _ _ _ _ rfl rfl HRR.out ?_))
            exact ⟨⟨j + 1, .inr (by omega), HV5, _, _, rfl⟩, by simp [lenV]; omega⟩
          · have hlt' : ¬ (m : Int) + (j : Int) < (wide : Int) := by omega
            have hjw : j = wide - m := by omega
            subst hjw
            go_wp2_with fail
            go_meet
            case rel => exact ⟨_, _, _, by omega, by omega, rfl, HV, hlen⟩
      case rest =>
      obtain ⟨n', p, c, hwn, hn47, rfl, HV6, HL6⟩ := hcut
      apply_assumption
      have HTX : Hid (txt ((List.replicate L 32 ++ s.toList ++ List.replicate (wide - m) 32).take wide) = R) := by
        show _ = _
        rw [← HR.out]
        unfold wideL
        rw [size_list, HL.out]
        congr 1
        exact take_rep _ m wide hl4
      have hw0 : (0 : Int) ≤ (wide : Int) := by omega
      have hw1 : (wide : Int) ≤ (n' : Int) := by omega
      obtain ⟨p6, c6, e6, hf6⟩ := HV6.out.form
      rw [HL6.out] at e6 hf6
      injection e6 with e6a _ e6b
      subst e6a e6b
      have HB6 : Hid (Bw w wc) := HV6.out.below
      rcases hf6 with ⟨h0, rfl, rfl⟩ | ⟨g, rfl, hcc⟩
      · subst h0
        obtain rfl : wide = 0 := by omega
        have hcv := nil_text wc
        have HTN : Hid (R = nul) := by show _ = _; rw [← HTX.out]; rfl
        go_wp2_with fail
        go_ret
        exact ⟨by rw [HTN.out]; rfl, HB6.out⟩
      · have hcv := HV6.out.text wide c (by rw [HL6.out]; exact hwn)
        rw [HTX.out] at hcv
        have hw2 : (wide : Int) ≤ (c : Int) := by omega
        clear HV6
        go_wp2_with fail
        go_ret
        exact ⟨rfl, HB6.out⟩
  · by_cases h1 : side = 1
    · subst h1
      by_cases hn : s.size < wide
      · have hn' : (wide : Int) > (s.size : Int) := by omega
        have e8 : ((wide : Int) - (s.size : Int)).tdiv 2 = (L : Int) := by
          have h3 := HL.out
          unfold lft at h3
          simp at h3
          rw [show (wide : Int) - (s.size : Int) = ((wide - s.size : Nat) : Int) by omega, Int.tdiv_eq_ediv_of_nonneg (by omega)]
          omega
        go_enter Tryd.func5, Tryd.ntmps5
        go_upto_block 0 with fail
        go_cut [7] (fun s7 wx => Hid (BV w s7 (List.replicate L 32) wx))
        case first =>
          go_wp2_with fail
          go_loopw [7] (fun s7 wr => ∃ j : Nat, j ≤ L ∧ Hid (BV w s7 (List.replicate j 32) wr) ∧ (∃ p c, s7 = .slice p j c)) (fun s7 _ => L - lenV s7)
          case atStart => exact ⟨0, Nat.zero_le _, BV.nil w, none, 0, rfl⟩
          case round =>
            obtain ⟨j, hj, HV, p, c, rfl⟩ := hrel
            by_cases hlt : j < L
            · have hlt' : (j : Int) < (L : Int) := by omega
              obtain ⟨g2, cc, w3, hr, hV3⟩ := HV.out.one (by rw [List.length_replicate]; omega) 32
              rw [List.length_replicate] at hr hV3
              have HV3 : Hid (BV w (.slice (some ⟨g2, 0, none⟩) (j + 1) cc) (List.replicate (j + 1) 32) w3) := by show BV _ _ _ _; rw [rep_snoc]; exact hV3
              have HRR : Hid ((Builtin.append_ #[37, 37] 37 #[.slice p j c, .slice (some ⟨wr.heap.size, 0, none⟩) 1 1]).run Tryd.prog (wr.alloc (.cells #[.int .u8 32] 5)) = .ok (.slice (some ⟨g2, 0, none⟩) (j + 1) cc) w3) := hr
              clear hr hV3 HV
              go_wp2_with (first | (at_builtin; refine wpList_append_eq rfl _ _ 37 37 rfl _ _ _ _ rfl rfl HRR.out ?_))
              exact ⟨⟨j + 1, hlt, HV3, _, _, rfl⟩, by simp [lenV]; omega⟩
            · have hlt' : ¬ (j : Int) < (L : Int) := by omega
              have hjL : j = L := by omega
              subst hjL
              go_wp2_with fail
              go_meet
              case rel => exact HV
        case rest =>
        have HV : Hid (BV w u7 (List.replicate L 32) wc) := hcut
        clear hcut
        apply_assumption
        obtain ⟨v4, w4, hr4, hV4⟩ := HV.out.str s (by rw [List.length_replicate]; omega)
        obtain ⟨p3, c3, e7, -⟩ := HV.out.form
        rw [List.length_replicate] at e7
        subst e7
        have HR4 : Hid ((Builtin.append_ #[37, 9] 37 #[.slice p3 L c3, .string s]).run Tryd.prog wc = .ok v4 w4) := hr4
        obtain ⟨p4, c4, e4, -⟩ := hV4.form
        have hl4 : (List.replicate L (32 : UInt8) ++ s.toList).length = L + s.size := by rw [List.length_append, List.length_replicate, size_list]
        rw [hl4] at e4
        subst e4
        have HV4 : Hid (BV w (.slice p4 (L + s.size) c4) (List.replicate L 32 ++ s.toList) w4) := hV4
        clear hr4 hV4 HV
        obtain ⟨m, hm⟩ : ∃ m, L + s.size = m := ⟨_, rfl⟩
        have HM : Hid (L + s.size = m) := hm
        rw [hm] at HR4 HV4 hl4
        have hmb : m ≤ 140737488355328 := by omega
        clear hm
        go_upto_block 2 with (first | (at_builtin; refine wpList_append_eq rfl _ _ 37 9 rfl _ _ _ _ rfl rfl HR4.out ?_))
        go_cut [7] (fun s7 wx => ∃ n' p c, wide ≤ n' ∧ n' ≤ 140737488355328 ∧ s7 = .slice p n' c ∧ Hid (BV w s7 (List.replicate L 32 ++ s.toList ++ List.replicate (wide - m) 32) wx) ∧ Hid ((List.replicate L 32 ++ s.toList ++ List.replicate (wide - m) 32).length = n'))
        case first =>
          go_wp2_with fail
          go_loopw [7] (fun s7 wr => ∃ j : Nat, (j = 0 ∨ m + j ≤ wide) ∧ Hid (BV w s7 (List.replicate L 32 ++ s.toList ++ List.replicate j 32) wr) ∧ (∃ p c, s7 = .slice p (m + j) c)) (fun s7 _ => wide - lenV s7)
          case atStart => exact ⟨0, .inl rfl, by show BV _ _ _ _; simpa using HV4.out, p4, c4, rfl⟩
          case round =>
            obtain ⟨j, hj, HV, p, c, rfl⟩ := hrel
            have hlen : (List.replicate L (32 : UInt8) ++ s.toList ++ List.replicate j 32).length = m + j := by rw [List.length_append, hl4, List.length_replicate]
            by_cases hlt : m + j < wide
            · have hlt' : (m : Int) + (j : Int) < (wide : Int) := by omega
              obtain ⟨g2, cc, w5, hr, hV5⟩ := HV.out.one (by rw [hlen]; omega) 32
              rw [hlen] at hr hV5
              have HV5 : Hid (BV w (.slice (some ⟨g2, 0, none⟩) (m + (j + 1)) cc) (List.replicate L 32 ++ s.toList ++ List.replicate (j + 1) 32) w5) := by show BV _ _ _ _; rw [rep_snoc, ← List.append_assoc]; exact hV5
              have HRR : Hid ((Builtin.append_ #[37, 37] 37 #[.slice p (m + j) c, .slice (some ⟨wr.heap.size, 0, none⟩) 1 1]).run Tryd.prog (wr.alloc (.cells #[.int .u8 32] 5)) = .ok (.slice (some ⟨g2, 0, none⟩) (m + j + 1) cc) w5) := hr
              clear hr hV5 HV hlen
              go_wp2_with (first | (at_builtin; refine wpList_append_eq rfl _ _ 37 37 rfl _ _ _ _ rfl rfl HRR.out ?_))
              exact ⟨⟨j + 1, .inr (by omega), HV5, _, _, rfl⟩, by simp [lenV]; omega⟩
            · have hlt' : ¬ (m : Int) + (j : Int) < (wide : Int) := by omega
              have hjw : j = wide - m := by omega
              subst hjw
              go_wp2_with fail
              go_meet
              case rel => exact ⟨_, _, _, by omega, by omega, rfl, HV, hlen⟩
        case rest =>
        obtain ⟨n', p, c, hwn, hn47, rfl, HV6, HL6⟩ := hcut
        apply_assumption
        have HTX : Hid (txt ((List.replicate L 32 ++ s.toList ++ List.replicate (wide - m) 32).take wide) = R) := by
          show _ = _
          rw [← HR.out]
          unfold wideL
          rw [size_list, HL.out]
          congr 1
          exact take_rep _ m wide hl4
        have hw0 : (0 : Int) ≤ (wide : Int) := by omega
        have hw1 : (wide : Int) ≤ (n' : Int) := by omega
        obtain ⟨p6, c6, e6, hf6⟩ := HV6.out.form
        rw [HL6.out] at e6 hf6
        injection e6 with e6a _ e6b
        subst e6a e6b
        have HB6 : Hid (Bw w wc) := HV6.out.below
        rcases hf6 with ⟨h0, rfl, rfl⟩ | ⟨g, rfl, hcc⟩
        · subst h0
          obtain rfl : wide = 0 := by omega
          have hcv := nil_text wc
          have HTN : Hid (R = nul) := by show _ = _; rw [← HTX.out]; rfl
          go_wp2_with fail
          go_ret
          exact ⟨by rw [HTN.out]; rfl, HB6.out⟩
        · have hcv := HV6.out.text wide c (by rw [HL6.out]; exact hwn)
          rw [HTX.out] at hcv
          have hw2 : (wide : Int) ≤ (c : Int) := by omega
          clear HV6
          go_wp2_with fail
          go_ret
          exact ⟨rfl, HB6.out⟩
      · have hn' : ¬ (wide : Int) > (s.size : Int) := by omega
        have HL0 : Hid (L = 0) := by show _ = _; have := HL.out; unfold lft at this; simp at this; omega
        go_enter Tryd.func5, Tryd.ntmps5
        go_upto_block 0 with fail
        go_cut [7] (fun s7 wx => Hid (BV w s7 (List.replicate L 32) wx))
        case first =>
          go_wp2_with fail
          go_loopw [7] (fun s7 wr => s7 = .slice none 0 0 ∧ wr = w) (fun _ _ => 0)
          case atStart => exact ⟨rfl, rfl⟩
          case round =>
            obtain ⟨rfl, rfl⟩ := hrel
            go_wp2_with fail
            go_meet
            case rel => show BV _ _ _ _; rw [HL0.out]; exact BV.nil _
        case rest =>
        have HV : Hid (BV w u7 (List.replicate L 32) wc) := hcut
        clear hcut
        apply_assumption
        obtain ⟨v4, w4, hr4, hV4⟩ := HV.out.str s (by rw [List.length_replicate]; omega)
        obtain ⟨p3, c3, e7, -⟩ := HV.out.form
        rw [List.length_replicate] at e7
        subst e7
        have HR4 : Hid ((Builtin.append_ #[37, 9] 37 #[.slice p3 L c3, .string s]).run Tryd.prog wc = .ok v4 w4) := hr4
        obtain ⟨p4, c4, e4, -⟩ := hV4.form
        have hl4 : (List.replicate L (32 : UInt8) ++ s.toList).length = L + s.size := by rw [List.length_append, List.length_replicate, size_list]
        rw [hl4] at e4
        subst e4
        have HV4 : Hid (BV w (.slice p4 (L + s.size) c4) (List.replicate L 32 ++ s.toList) w4) := hV4
        clear hr4 hV4 HV
        obtain ⟨m, hm⟩ : ∃ m, L + s.size = m := ⟨_, rfl⟩
        have HM : Hid (L + s.size = m) := hm
        rw [hm] at HR4 HV4 hl4
        have hmb : m ≤ 140737488355328 := by omega
        clear hm
        go_upto_block 2 with (first | (at_builtin; refine wpList_append_eq rfl _ _ 37 9 rfl _ _ _ _ rfl rfl HR4.out ?_))
        go_cut [7] (fun s7 wx => ∃ n' p c, wide ≤ n' ∧ n' ≤ 140737488355328 ∧ s7 = .slice p n' c ∧ Hid (BV w s7 (List.replicate L 32 ++ s.toList ++ List.replicate (wide - m) 32) wx) ∧ Hid ((List.replicate L 32 ++ s.toList ++ List.replicate (wide - m) 32).length = n'))
        case first =>
          go_wp2_with fail
          go_loopw [7] (fun s7 wr => ∃ j : Nat, (j = 0 ∨ m + j ≤ wide) ∧ Hid (BV w s7 (List.replicate L 32 ++ s.toList ++ List.replicate j 32) wr) ∧ (∃ p c, s7 = .slice p (m + j) c)) (fun s7 _ => wide - lenV s7)
          case atStart => exact ⟨0, .inl rfl, by show BV _ _ _ _; simpa using HV4.out, p4, c4, rfl⟩
          case round =>
            obtain ⟨j, hj, HV, p, c, rfl⟩ := hrel
            have hlen : (List.replicate L (32 : UInt8) ++ s.toList ++ List.replicate j 32).length = m + j := by rw [List.length_append, hl4, List.length_replicate]
            by_cases hlt : m + j < wide
            · have hlt' : (m : Int) + (j : Int) < (wide : Int) := by omega
              obtain ⟨g2, cc, w5, hr, hV5⟩ := HV.out.one (by rw [hlen]; omega) 32
              rw [hlen] at hr hV5
              have HV5 : Hid (BV w (.slice (some ⟨g2, 0, none⟩) (m + (j + 1)) cc) (List.replicate L 32 ++ s.toList ++ List.replicate (j + 1) 32) w5) := by show BV _ _ _ _; rw [rep_snoc, ← List.append_assoc]; exact hV5
              have HRR : Hid ((Builtin.append_ #[37, 37] 37 #[.slice p (m + j) c, .slice (some ⟨wr.heap.size, 0, none⟩) 1 1]).run Tryd.prog (wr.alloc (.cells #[.int .u8 32] 5)) = .ok (.slice (some ⟨g2, 0, none⟩) (m + j + 1) cc) w5) := hr
              clear hr hV5 HV hlen
              go_wp2_with (first | (at_builtin; refine wpList_append_eq rfl _ _ 37 37 rfl _ _ _ _ rfl rfl HRR.out ?_))
              exact ⟨⟨j + 1, .inr (by omega), HV5, _, _, rfl⟩, by simp [lenV]; omega⟩
            · have hlt' : ¬ (m : Int) + (j : Int) < (wide : Int) := by omega
              have hjw : j = wide - m := by omega
              subst hjw
              go_wp2_with fail
              go_meet
              case rel => exact ⟨_, _, _, by omega, by omega, rfl, HV, hlen⟩
        case rest =>
        obtain ⟨n', p, c, hwn, hn47, rfl, HV6, HL6⟩ := hcut
        apply_assumption
        have HTX : Hid (txt ((List.replicate L 32 ++ s.toList ++ List.replicate (wide - m) 32).take wide) = R) := by
          show _ = _
          rw [← HR.out]
          unfold wideL
          rw [size_list, HL.out]
          congr 1
          exact take_rep _ m wide hl4
        have hw0 : (0 : Int) ≤ (wide : Int) := by omega
        have hw1 : (wide : Int) ≤ (n' : Int) := by omega
        obtain ⟨p6, c6, e6, hf6⟩ := HV6.out.form
        rw [HL6.out] at e6 hf6
        injection e6 with e6a _ e6b
        subst e6a e6b
        have HB6 : Hid (Bw w wc) := HV6.out.below
        rcases hf6 with ⟨h0, rfl, rfl⟩ | ⟨g, rfl, hcc⟩
        · subst h0
          obtain rfl : wide = 0 := by omega
          have hcv := nil_text wc
          have HTN : Hid (R = nul) := by show _ = _; rw [← HTX.out]; rfl
          go_wp2_with fail
          go_ret
          exact ⟨by rw [HTN.out]; rfl, HB6.out⟩
        · have hcv := HV6.out.text wide c (by rw [HL6.out]; exact hwn)
          rw [HTX.out] at hcv
          have hw2 : (wide : Int) ≤ (c : Int) := by omega
          clear HV6
          go_wp2_with fail
          go_ret
          exact ⟨rfl, HB6.out⟩
    · have HL0 : Hid (L = 0) := by show _ = _; have := HL.out; unfold lft at this; rw [if_neg h2, if_neg h1] at this; omega
      have h2' : (side == 2) = false := by simpa using h2
      have h1' : (side == 1) = false := by simpa using h1
      go_enter Tryd.func5, Tryd.ntmps5
      go_upto_block 0 with fail
      go_cut [7] (fun s7 wx => Hid (BV w s7 (List.replicate L 32) wx))
      case first =>
        go_wp2_with fail
        go_loopw [7] (fun s7 wr => s7 = .slice none 0 0 ∧ wr = w) (fun _ _ => 0)
        case atStart => exact ⟨rfl, rfl⟩
        case round =>
          obtain ⟨rfl, rfl⟩ := hrel
          go_wp2_with fail
          go_meet
          case rel => show BV _ _ _ _; rw [HL0.out]; exact BV.nil _
      case rest =>
      have HV : Hid (BV w u7 (List.replicate L 32) wc) := hcut
      clear hcut
      apply_assumption
      obtain ⟨v4, w4, hr4, hV4⟩ := HV.out.str s (by rw [List.length_replicate]; omega)
      obtain ⟨p3, c3, e7, -⟩ := HV.out.form
      rw [List.length_replicate] at e7
      subst e7
      have HR4 : Hid ((Builtin.append_ #[37, 9] 37 #[.slice p3 L c3, .string s]).run Tryd.prog wc = .ok v4 w4) := hr4
      obtain ⟨p4, c4, e4, -⟩ := hV4.form
      have hl4 : (List.replicate L (32 : UInt8) ++ s.toList).length = L + s.size := by rw [List.length_append, List.length_replicate, size_list]
      rw [hl4] at e4
      subst e4
      have HV4 : Hid (BV w (.slice p4 (L + s.size) c4) (List.replicate L 32 ++ s.toList) w4) := hV4
      clear hr4 hV4 HV
      obtain ⟨m, hm⟩ : ∃ m, L + s.size = m := ⟨_, rfl⟩
      have HM : Hid (L + s.size = m) := hm
      rw [hm] at HR4 HV4 hl4
      have hmb : m ≤ 140737488355328 := by omega
      clear hm
      go_upto_block 2 with (first | (at_builtin; refine wpList_append_eq rfl _ _ 37 9 rfl _ _ _ _ rfl rfl HR4.out ?_))
      go_cut [7] (fun s7 wx => ∃ n' p c, wide ≤ n' ∧ n' ≤ 140737488355328 ∧ s7 = .slice p n' c ∧ Hid (BV w s7 (List.replicate L 32 ++ s.toList ++ List.replicate (wide - m) 32) wx) ∧ Hid ((List.replicate L 32 ++ s.toList ++ List.replicate (wide - m) 32).length = n'))
      case first =>
        go_wp2_with fail
        go_loopw [7] (fun s7 wr => ∃ j : Nat, (j = 0 ∨ m + j ≤ wide) ∧ Hid (BV w s7 (List.replicate L 32 ++ s.toList ++ List.replicate j 32) wr) ∧ (∃ p c, s7 = .slice p (m + j) c)) (fun s7 _ => wide - lenV s7)
        case atStart => exact ⟨0, .inl rfl, by show BV _ _ _ _; simpa using HV4.out, p4, c4, rfl⟩
        case round =>
          obtain ⟨j, hj, HV, p, c, rfl⟩ := hrel
          have hlen : (List.replicate L (32 : UInt8) ++ s.toList ++ List.replicate j 32).length = m + j := by rw [List.length_append, hl4, List.length_replicate]
          by_cases hlt : m + j < wide
          · have hlt' : (m : Int) + (j : Int) < (wide : Int) := by omega
            obtain ⟨g2, cc, w5, hr, hV5⟩ := HV.out.one (by rw [hlen]; omega) 32
            rw [hlen] at hr hV5
            have HV5 : Hid (BV w (.slice (some ⟨g2, 0, none⟩) (m + (j + 1)) cc) (List.replicate L 32 ++ s.toList ++ List.replicate (j + 1) 32) w5) := by show BV _ _ _ _; rw [rep_snoc, ← List.append_assoc]; exact hV5
            have HRR : Hid ((Builtin.append_ #[37, 37] 37 #[.slice p (m + j) c, .slice (some ⟨wr.heap.size, 0, none⟩) 1 1]).run Tryd.prog (wr.alloc (.cells #[.int .u8 32] 5)) = .ok (.slice (some ⟨g2, 0, none⟩) (m + j + 1) cc) w5) := hr
            clear hr hV5 HV hlen
            go_wp2_with (first | (at_builtin; refine wpList_append_eq rfl _ _ 37 37 rfl _ _ _ _ rfl rfl HRR.out ?_))
            exact ⟨⟨j + 1, .inr (by omega), HV5, _, _, rfl⟩, by simp [lenV]; omega⟩
          · have hlt' : ¬ (m : Int) + (j : Int) < (wide : Int) := by omega
            have hjw : j = wide - m := by omega
            subst hjw
            go_wp2_with fail
            go_meet
            case rel => exact ⟨_, _, _, by omega, by omega, rfl, HV, hlen⟩
      case rest =>
      obtain ⟨n', p, c, hwn, hn47, rfl, HV6, HL6⟩ := hcut
      apply_assumption
      have HTX : Hid (txt ((List.replicate L 32 ++ s.toList ++ List.replicate (wide - m) 32).take wide) = R) := by
        show _ = _
        rw [← HR.out]
        unfold wideL
        rw [size_list, HL.out]
        congr 1
        exact take_rep _ m wide hl4
      have hw0 : (0 : Int) ≤ (wide : Int) := by omega
      have hw1 : (wide : Int) ≤ (n' : Int) := by omega
      obtain ⟨p6, c6, e6, hf6⟩ := HV6.out.form
      rw [HL6.out] at e6 hf6
      injection e6 with e6a _ e6b
      subst e6a e6b
      have HB6 : Hid (Bw w wc) := HV6.out.below
      rcases hf6 with ⟨h0, rfl, rfl⟩ | ⟨g, rfl, hcc⟩
      · subst h0
        obtain rfl : wide = 0 := by omega
        have hcv := nil_text wc
        have HTN : Hid (R = nul) := by show _ = _; rw [← HTX.out]; rfl
        go_wp2_with fail
        go_ret
        exact ⟨by rw [HTN.out]; rfl, HB6.out⟩
      · have hcv := HV6.out.text wide c (by rw [HL6.out]; exact hwn)
        rw [HTX.out] at hcv
        have hw2 : (wide : Int) ≤ (c : Int) := by omega
        clear HV6
        go_wp2_with fail
        go_ret
        exact ⟨rfl, HB6.out⟩
end Go.Proofs.YtnelglmbckgbgaaDoor.fw
