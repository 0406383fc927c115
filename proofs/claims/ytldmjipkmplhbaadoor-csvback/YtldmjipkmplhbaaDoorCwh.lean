
/- strings.ContainsAny of four letters, at any text: walked. Conditions: as each theorem says. -/
import Derived.Test.YtldmjipkmplhbaaDoorCwb
import Derived.Test.YtldmjipkmplhbaaDoorShk
import Derived.Laws.Runes
import Derived.Laws.RangeString
import Derived.Lib.OthersKept
import Derived.Lib.TrimU
import Derived.Lib.TrimUEq
import Derived.Lib.MapLaws
import Derived.Lib.IndexAny
namespace Go.Proofs.YtldmjipkmplhbaaDoor.fw
open Go.RowKit Go.Sort
abbrev QC : ByteArray := { data := #[44, 34, 10, 13] }
theorem QC_low (i : Nat) (h : i < QC.size) : (QC[i]'h).toNat < 128 := by
  have h4 : i < 4 := h
  have e : i = 0 ∨ i = 1 ∨ i = 2 ∨ i = 3 := by omega
  rcases e with rfl | rfl | rfl | rfl
  · show (44 : UInt8).toNat < 128; decide
  · show (34 : UInt8).toNat < 128; decide
  · show (10 : UInt8).toNat < 128; decide
  · show (13 : UInt8).toNat < 128; decide
theorem indexByte_none (l : List UInt8) (b : UInt8) (h : ∀ x ∈ l, x ≠ b) : Lib.indexByte l b = -1 := by
  induction l with
  | nil => rfl
  | cons c l ih =>
    have hc : (c == b) = false := beq_eq_false_iff_ne.2 (h c List.mem_cons_self)
    rw [Lib.indexByte, hc, ih (fun x hx => h x (List.mem_cons_of_mem _ hx))]
    rfl
theorem QC_part (a e : Nat) (b : UInt8) (hb : 128 ≤ b.toNat) : Lib.indexByte (QC.extract a e).data.toList b = -1 := by
  refine indexByte_none _ _ fun x hx hxb => ?_
  have hm := mem_extract hx
  have : x = 44 ∨ x = 34 ∨ x = 10 ∨ x = 13 := by simpa using hm
  subst hxb
  rcases this with rfl | rfl | rfl | rfl <;> revert hb <;> decide
set_option maxRecDepth 1000000 in
set_option maxHeartbeats 4000000 in
/-- IndexRune of a rune beyond ASCII: not there. -/
theorem indexRune_high (R : Nat) (w : World) (h0 : 128 ≤ R) (h1 : R ≤ 1114111) (hv : R < 55296 ∨ 57343 < R) :
    Calls Tryd.prog 37 #[.string QC, .int .i32 (R : Int)] w fun e w' => e = .returned (.int .i64 (-1)) ∧ Bw w w' := by
  have hr0 : (0 : Int) ≤ (R : Int) := by omega
  have hr1 : ¬ (R : Int) < 128 := by omega
  by_cases h5 : R = 65533
  · have h5z : (((R : Nat) : Int) == 65533) = true := by rw [beq_iff_eq]; omega
    clear h0 h1 hv h5
    go_enter Tryd.func37, Tryd.ntmps37
    go_upto_block 9 with fail
    go_wp2_with fail
    go_loopw [] (fun wr => ∃ i : Nat, wr = w.iter QC i ∧ i ≤ 4) (fun wr => 4 - wr.iterPos w.heap.size)
    case atStart => exact ⟨0, rfl, by decide⟩
    case round =>
      obtain ⟨i, rfl, hi⟩ := hrel
      by_cases hlt : i < QC.size
      · have hnx := fun ty => run_next_ascii (P := Tryd.prog) w QC i ty hlt (QC_low i hlt)
        have hb : ((((QC[i]'hlt).toNat : Nat) : Int) == 65533) = false := beq_eq_false_iff_ne.2 (by have := QC_low i hlt; omega)
        go_wp2_with fail
        exact ⟨⟨i + 1, by first | rfl | trivial, hlt⟩, by have h4 : i < 4 := hlt; simp; omega⟩
      · have hnx := fun ty => run_next_end (P := Tryd.prog) w QC i ty hlt
        have hB : Hid (Bw w (w.iter QC i)) := Bw.al w _
        go_wp2_with fail
        go_ret
        exact ⟨rfl, hB.out⟩
  · have h5z : (((R : Nat) : Int) == 65533) = false := beq_eq_false_iff_ne.2 (by omega)
    have hvr : Lib.validRune (R : Int) = true := by
      unfold Lib.validRune
      exact decide_eq_true (by omega)
    have hV := fun wx => Tryd.utf8_ValidRune (R : Int) wx
    rw [hvr] at hV
    obtain ⟨e1, e2, e3⟩ := encode_facts (R : Int) (by rw [validRune_eq]; unfold Go.validRune; exact decide_eq_true (by omega)) (by omega)
    obtain ⟨rs, hrs⟩ : ∃ rs, Utf8.encode (R : Int) = rs := ⟨_, rfl⟩
    rw [hrs] at e1 e2 e3
    obtain ⟨L, hL⟩ : ∃ L, rs.size = L + 1 := ⟨rs.size - 1, by omega⟩
    have hl1 : 1 ≤ L := by omega
    have hl3 : L ≤ 3 := by omega
    have hLr : L < rs.size := by omega
    have hLq : L < QC.size := by show L < 4; omega
    have hhi : 128 ≤ (rs[L]'hLr).toNat := by
      have := e3 (by omega)
      have e : rs.size - 1 = L := by omega
      simp only [e] at this
      exact this
    have hne : ((((QC[L]'hLq).toNat : Nat) : Int) == (((rs[L]'hLr).toNat : Nat) : Int)) = false := beq_eq_false_iff_ne.2 (by have := QC_low L hLq; omega)
    have hszI : (rs.size : Int) = (L : Int) + 1 := by omega
    have hl0 : (0 : Int) ≤ (L : Int) := by omega
    have hl4 : (L : Int) < 4 := by omega
    have hLrz : (L : Int) < (L : Int) + 1 := by omega
    have hneZ : ¬ ((((QC[L]'hLq).toNat : Nat) : Int) = (((rs[L]'hLr).toNat : Nat) : Int)) := by have := QC_low L hLq; omega
    have hl50 : (0 : Int) ≤ (L : Int) + 1 := by omega
    have hl51 : (L : Int) + 1 ≤ 4 := by omega
    have hwr : IntKind.i64.wrap ((L : Int) + 1) = (L : Int) + 1 := wrap_small _ (by omega) (by omega)
    have hIB : Hid (∀ wx, Calls Tryd.prog 49 #[.string (QC.extract (L + 1) 4), .int .u8 ((rs[L]'hLr).toNat : Int)] wx fun e w' => e = .returned (.int .i64 (-1)) ∧ w' = wx) := fun wx => by
      have h := Tryd.strings_IndexByte (QC.extract (L + 1) 4) ((rs[L]'hLr).toNat : Int) wx
      have e : Lib.indexByte (QC.extract (L + 1) 4).data.toList (((rs[L]'hLr).toNat : Int)).toNat.toUInt8 = -1 := QC_part _ _ _ (by simpa using hhi)
      rw [e] at h
      exact h
    clear e1 e2 e3 hvr hL h0 h1 hv h5
    go_enter Tryd.func37, Tryd.ntmps37
    go_upto_region 1 with (go_at_call 50; with_reducible refine (hV _).mono ?_; rintro e w' ⟨rfl, hw⟩; rw [hw]; clear hw)
    refine wp_scope_straight ?_
    go_upto_region 5 with fail
    go_loopw [9] (fun s9 wr => s9 = .int .i64 (L : Int) ∧ w = wr) (fun _ wr => wr.heap.size)
    case atStart => exact ⟨by simp, rfl⟩
    case round =>
      obtain ⟨rfl, rfl⟩ := hrel
      go_wp2_with fail
      refine wp_scope_straight ?_
      go_upto_region 6 with fail
      go_cut [33] (fun s33 wx => s33 = .bool true ∧ Hid (Bw w wx))
      case first =>
        go_region
        all_goals
          go_wp2_with fail
          go_meet
          case rel => exact ⟨by simp; exact hneZ, (Below.refl _ _ : Bw w w).drew⟩
      case rest =>
      obtain ⟨rfl, HB⟩ := hcut
      apply_assumption
      go_wp2_with fail
      go_upto_region 8 with fail
      go_region_held3 (fun wx => Hid (Bw w wx)) (first | exact HB.out.drew | assumption) (first | (go_at_call 49; with_reducible refine (hIB.out _).mono ?_; rintro e w' ⟨rfl, hw⟩; rw [hw]; clear hw))
      have HB3 : Hid (Bw w wc.drew) := HB.out.drew
      go_wp2_with fail
      change bodyPost Tryd.prog Tryd.f37 (fun e w' => e = Ending.returned (Value.int IntKind.i64 (-1)) ∧ Bw w w') Exit.ret _ _
      go_ret
      exact ⟨rfl, HB3.out⟩
/-- Is a byte among the four? -/
theorem QC_spc (b : UInt8) : QC.data.toList.contains b = spc b := by
  show [44, 34, 10, 13].contains b = spc b
  unfold spc
  simp [List.contains, List.elem]
  cases (b == 44) <;> cases (b == 34) <;> cases (b == 10) <;> cases (b == 13) <;> rfl
theorem spc_high {b : UInt8} (h : 128 ≤ b.toNat) : spc b = false := by
  unfold spc
  simp only [Bool.or_eq_false_iff, beq_eq_false_iff_ne]
  refine ⟨⟨⟨?_, ?_⟩, ?_⟩, ?_⟩ <;> (intro e; subst e; revert h; decide)
theorem get_of {s : ByteArray} {j : Nat} {b : UInt8} (h : s.toList[j]? = some b) : s.get! j = b := by
  rw [ByteArray.toList_eq, Array.getElem?_toList] at h
  show s.data[j]! = b
  rw [Array.getElem!_eq_getD, Array.getD_eq_getD_getElem?, h]
  rfl
theorem at_lh {s : ByteArray} {i : Nat} (h : i < s.size) : s.toList[i]? = some s[i] := by
  rw [ByteArray.toList_eq, Array.getElem?_toList]
  exact Array.getElem?_eq_getElem h
/-- What is decoded is a byte below 128, or bytes from 128 on. -/
theorem dec_cases (s : ByteArray) (i : Nat) (h : i < s.size) :
    (s[i].toNat < 128 ∨ (128 ≤ (Utf8.decode s i).1 ∧ (Utf8.decode s i).1 ≤ 1114111 ∧ ((Utf8.decode s i).1 < 55296 ∨ 57343 < (Utf8.decode s i).1) ∧ i + (Utf8.decode s i).2 ≤ s.size ∧ ∀ j, i ≤ j → j < i + (Utf8.decode s i).2 → ∀ b, s.toList[j]? = some b → spc b = false)) := by
  by_cases h0 : s[i].toNat < 128
  · exact .inl h0
  · right
    have g0 : (s.get! i).toNat = s[i].toNat := by rw [get_of (at_lh h)]
    have hj : ∀ (k : Nat) (b : UInt8), s.toList[i + k]? = some b → 128 ≤ (s.get! (i + k)).toNat → spc b = false := fun k b hb h1 => by
      rw [get_of hb] at h1
      exact spc_high h1
    rw [Lib.decode_at]
    rcases Lib.decodeN_shape (s.size - i) (s.get! i).toNat (s.get! (i + 1)).toNat (s.get! (i + 2)).toNat (s.get! (i + 3)).toNat with ⟨c, e⟩ | ⟨c1, c2, c3, cv, e⟩ | ⟨c1, c2, c3, c4, cv, cs, e⟩ | ⟨c1, c2, c3, c4, c5, cv, cw, e⟩ | e
    · omega
    · rw [e]
      refine ⟨by dsimp only; omega, by dsimp only; omega, by dsimp only; omega, by dsimp only; omega, fun j h1 h2 b hb => ?_⟩
      dsimp only at h2
      obtain ⟨k, rfl⟩ : ∃ k, j = i + k := ⟨j - i, by omega⟩
      refine hj k b hb ?_
      have hk : k = 0 ∨ k = 1 := by omega
      rcases hk with rfl | rfl
      · rw [Nat.add_zero]; omega
      · omega
    · rw [e]
      refine ⟨by dsimp only; omega, by dsimp only; omega, by dsimp only; omega, by dsimp only; omega, fun j h1 h2 b hb => ?_⟩
      dsimp only at h2
      obtain ⟨k, rfl⟩ : ∃ k, j = i + k := ⟨j - i, by omega⟩
      refine hj k b hb ?_
      have hk : k = 0 ∨ k = 1 ∨ k = 2 := by omega
      rcases hk with rfl | rfl | rfl
      · rw [Nat.add_zero]; omega
      · omega
      · omega
    · rw [e]
      refine ⟨by dsimp only; omega, by dsimp only; omega, by dsimp only; omega, by dsimp only; omega, fun j h1 h2 b hb => ?_⟩
      dsimp only at h2
      obtain ⟨k, rfl⟩ : ∃ k, j = i + k := ⟨j - i, by omega⟩
      refine hj k b hb ?_
      have hk : k = 0 ∨ k = 1 ∨ k = 2 ∨ k = 3 := by omega
      rcases hk with rfl | rfl | rfl | rfl
      · rw [Nat.add_zero]; omega
      · omega
      · omega
      · omega
    · rw [e]
      refine ⟨by decide, by decide, by decide, by dsimp only; omega, fun j h1 h2 b hb => ?_⟩
      dsimp only at h2
      obtain rfl : j = i := by omega
      rw [← Nat.add_zero j] at hb
      exact hj 0 b hb (by rw [Nat.add_zero]; omega)
/-- None of the four so far. -/
def NS (s : ByteArray) (i : Nat) : Prop := i ≤ s.size ∧ ∀ (j : Nat) (b : UInt8), j < i → s.toList[j]? = some b → spc b = false
theorem NS.none {s : ByteArray} (h : NS s s.size) : s.toList.any spc = false := by
  rw [Bool.eq_false_iff]
  intro hc
  rw [List.any_eq_true] at hc
  obtain ⟨b, hb, h1⟩ := hc
  obtain ⟨j, hj⟩ := List.getElem?_of_mem hb
  have hlt := (List.getElem?_eq_some_iff.1 hj).1
  rw [size_list] at hlt
  rw [h.2 j b hlt hj] at h1
  cases h1
theorem any_of {s : ByteArray} {i : Nat} {b : UInt8} (h : s.toList[i]? = some b) (hb : spc b = true) : s.toList.any spc = true := List.any_eq_true.2 ⟨b, List.mem_of_getElem? h, hb⟩
set_option maxRecDepth 1000000 in
set_option maxHeartbeats 4000000 in
theorem indexAny_short (s : ByteArray) (w : World) (h8 : s.size ≤ 8) :
    Calls Tryd.prog 29 #[.string s, .string QC] w fun e w' => ∃ n : Int, e = .returned (.int .i64 n) ∧ Hid (decide (0 ≤ n) = s.toList.any spc ∧ Bw w w') := by
  have hS := fun wx => Tryd.strings_shouldUseASCIISet (s.size : Int) wx
  rw [show decide ((8 : Int) < (s.size : Int)) = false from decide_eq_false (by omega)] at hS
  go_enter Tryd.func29, Tryd.ntmps29
  go_upto_block 2 with (go_at_call 38; with_reducible refine (hS _).mono ?_; rintro e w' ⟨rfl, hw⟩; rw [hw]; clear hw)
  go_wp2_with fail
  go_loopw [] (fun wr => ∃ i : Nat, Hid (wr.heap[w.heap.size]? = some (.stringIter s i) ∧ Bw w wr ∧ NS s i)) (fun wr => s.size - wr.iterPos w.heap.size)
  case atStart => exact ⟨0, World.iter_heap w s 0, Bw.al w _, Nat.zero_le _, fun j _ hj => absurd hj (Nat.not_lt_zero _)⟩
  case round =>
    obtain ⟨i, HI⟩ := hrel
    have hpos : wr.iterPos w.heap.size = i := by unfold World.iterPos; rw [HI.out.1]
    rw [hpos]
    clear hpos
    by_cases hlt : i < s.size
    · have HC : Hid (s.toList[i]? = some s[i]) := at_lh hlt
      rcases dec_cases s i hlt with h0 | ⟨h0, h1, h2, h3, h4⟩
      · have hnx := fun ty => Lib.run_next_ascii_at (P := Tryd.prog) wr w.heap.size s i ty HI.out.1 hlt h0
        obtain ⟨W, hW⟩ : ∃ W, wr.iterAt w.heap.size s (i + 1) = W := ⟨_, rfl⟩
        have HW : Hid (W.heap[w.heap.size]? = some (.stringIter s (i + 1)) ∧ Bw w W) := by
          rw [← hW]
          exact ⟨Lib.iterAt_heap wr _ s i _ HI.out.1, Lib.below_iterAt HI.out.2.1 (Nat.le_refl _) s _⟩
        rw [hW] at hnx
        have hIR : Hid (∀ wx, Calls Tryd.prog 37 #[.string QC, .int .i32 (s[i].toNat : Int)] wx fun e w' => ∃ n : Int, e = .returned (.int .i64 n) ∧ w' = wx ∧ decide (0 ≤ n) = spc s[i]) := fun wx => by
          refine (Tryd.strings_IndexRune_ascii QC (s[i].toNat : Int) wx (by omega) (by omega)).mono fun e w' h => ⟨_, h.1, h.2, ?_⟩
          have e1 : ((s[i].toNat : Int)).toNat.toUInt8 = s[i] := by simp
          rw [e1, ← Lib.contains_iff_indexByte, QC_spc]
        by_cases hsp : spc s[i] = true
        · have HR : Hid (∀ n : Int, 0 ≤ n → decide (0 ≤ n) = s.toList.any spc ∧ Bw w W) := fun n hn => ⟨by rw [any_of HC.out hsp]; exact decide_eq_true hn, HW.out.2⟩
          rw [hsp] at hIR
          have hi0 : (0 : Int) ≤ (i : Int) := by omega
          clear hW h0 HI
          go_wp2_with (go_at_call 37; with_reducible refine (hIR.out _).mono ?_; rintro e w' ⟨n, rfl, hw, hn⟩; rw [hw]; clear hw; have hn2 : (0 : Int) ≤ n := of_decide_eq_true hn; clear hn)
          exact bodyPost_ret (v := .int .i64 (i : Int)) (by simp [results, Tryd.results29, go_sem]) rfl ⟨_, rfl, HR.out _ hi0⟩
        · have hsp' : spc s[i] = false := Bool.eq_false_iff.2 hsp
          have HN : Hid (NS s (i + 1)) := ⟨hlt, fun j b hj hb => by
            by_cases e : j = i
            · subst e
              have := HC.out.symm.trans hb
              rw [← Option.some.inj this]
              exact hsp'
            · exact HI.out.2.2.2 j b (by omega) hb⟩
          rw [hsp'] at hIR
          clear hW h0 HI hsp hsp'
          go_wp2_with (go_at_call 37; with_reducible refine (hIR.out _).mono ?_; rintro e w' ⟨n, rfl, hw, hn⟩; rw [hw]; clear hw; have hn2 : ¬ (0 : Int) ≤ n := of_decide_eq_false hn; clear hn)
          have hp : W.iterPos w.heap.size = i + 1 := by unfold World.iterPos; rw [HW.out.1]
          exact ⟨⟨i + 1, HW.out.1, HW.out.2, HN.out⟩, by rw [hp]; omega⟩
      · have hnx := fun ty => Lib.run_next_any_at (P := Tryd.prog) wr w.heap.size s i ty HI.out.1 hlt
        obtain ⟨R, hR⟩ : ∃ R, (Utf8.decode s i).1 = R := ⟨_, rfl⟩
        obtain ⟨K, hK⟩ : ∃ K, (Utf8.decode s i).2 = K := ⟨_, rfl⟩
        have hk1 : 1 ≤ K := by rw [← hK]; exact Lib.width_pos s i
        rw [hR] at h0 h1 h2
        rw [hK] at h3 h4
        rw [hR, hK] at hnx
        obtain ⟨W, hW⟩ : ∃ W, wr.iterAt w.heap.size s (i + K) = W := ⟨_, rfl⟩
        have HW : Hid (W.heap[w.heap.size]? = some (.stringIter s (i + K)) ∧ Bw w W) := by
          rw [← hW]
          exact ⟨Lib.iterAt_heap wr _ s i _ HI.out.1, Lib.below_iterAt HI.out.2.1 (Nat.le_refl _) s _⟩
        rw [hW] at hnx
        have hIR : Hid (∀ wx, Calls Tryd.prog 37 #[.string QC, .int .i32 (R : Int)] wx fun e w' => e = .returned (.int .i64 (-1)) ∧ Bw wx w') := fun wx => indexRune_high R wx h0 h1 h2
        have HN : Hid (NS s (i + K) ∧ 1 ≤ K ∧ i + K ≤ s.size) := ⟨⟨h3, fun j b hj hb => by
          by_cases e : j < i
          · exact HI.out.2.2.2 j b e hb
          · exact h4 j (by omega) hj b hb⟩, hk1, h3⟩
        clear hW h0 h1 h2 h3 h4 HI hR hK hk1
        go_wp2_with (go_at_call 37; with_reducible refine (hIR.out _).mono ?_; rintro e w9 ⟨rfl, hw⟩)
        have h9 := hw.block w.heap.size (Array.getElem?_eq_some_iff.1 HW.out.1).1
        have h10 := h9.trans HW.out.1
        have HB9 := HW.out.2.tr hw
        have := HN.out.2
        refine ⟨⟨i + K, h10, HB9, HN.out.1⟩, ?_⟩
        show s.size - World.iterPos _ _ < _
        unfold World.iterPos
        rw [h10]
        show s.size - (i + K) < s.size - i
        omega
    · have hnx := fun ty => Lib.run_next_end_at (P := Tryd.prog) wr w.heap.size s i ty HI.out.1 hlt
      have HR : Hid (decide (0 ≤ (-1 : Int)) = s.toList.any spc ∧ Bw w wr) := by
        have e : i = s.size := by have := HI.out.2.2.1; omega
        have hN := HI.out.2.2
        rw [e] at hN
        rw [hN.none]
        exact ⟨by decide, HI.out.2.1⟩
      clear HI
      go_wp2_with fail
      exact bodyPost_ret (v := .int .i64 (-1)) (by simp [results, Tryd.results29, go_sem]) rfl ⟨_, rfl, HR⟩
set_option maxRecDepth 1000000 in
set_option maxHeartbeats 4000000 in
/-- Has a text one of the four letters? -/
theorem containsAny_any (s : ByteArray) (w : World) (hs : s.size ≤ 4000) :
    Calls Tryd.prog 23 #[.string s, .string QC] w fun e w' => e = .returned (.bool (s.toList.any spc)) ∧ Bw w w' := by
  have hI : Calls Tryd.prog 29 #[.string s, .string QC] w fun e w' => ∃ n : Int, e = .returned (.int .i64 n) ∧ Hid (decide (0 ≤ n) = s.toList.any spc ∧ Bw w w') := by
    by_cases h8 : s.size ≤ 8
    · exact indexAny_short s w h8
    · have hz : (Tryd.prog.info? 83).map (fun i => (i.zero, i.size)) = some (some (.agg (Array.replicate 256 (.bool false))), 256) := by kernel_rfl
      refine (Tryd.strings_IndexAny_long (zero_of_info hz).1 s QC w (by decide) (by omega) (by omega) (by decide) (fun j b hb => ?_)).mono fun e w' h => ⟨_, h.1, ?_, ?_⟩
      · have hm : b ∈ QC.data.toList := List.mem_of_getElem? hb
        have : b = 44 ∨ b = 34 ∨ b = 10 ∨ b = 13 := by simpa using hm
        rcases this with rfl | rfl | rfl | rfl <;> decide
      · rw [data_list]
        have hc : ∀ l : List UInt8, decide (0 ≤ Lib.indexAny l QC.data.toList) = l.any spc := fun l => by
          induction l with
          | nil => rfl
          | cons b l ih =>
            rw [Lib.indexAny, QC_spc, List.any_cons]
            by_cases hb : spc b = true
            · rw [if_pos hb, hb]; rfl
            · rw [if_neg hb, Bool.eq_false_iff.2 hb, Bool.false_or, ← ih]
              have := Lib.indexAny_ge QC.data.toList l
              by_cases h1 : (Lib.indexAny l QC.data.toList == -1) = true
              · rw [if_pos h1, beq_iff_eq.1 h1]
              · rw [if_neg h1]
                have h2 : Lib.indexAny l QC.data.toList ≠ -1 := fun e => h1 (beq_iff_eq.2 e)
                have h3 : 0 ≤ Lib.indexAny l QC.data.toList := by omega
                rw [decide_eq_true h3]
                exact decide_eq_true (by omega)
        exact hc s.toList
      · rw [h.2]
        exact (Bw.al w _).tr (Bw.al _ _)
  have HI : Hid (Calls Tryd.prog 29 #[.string s, .string QC] w fun e w' => ∃ n : Int, e = .returned (.int .i64 n) ∧ Hid (decide (0 ≤ n) = s.toList.any spc ∧ Bw w w')) := hI
  clear hI hs
  go_enter Tryd.func23, Tryd.ntmps23
  go_wp2_with (go_at_call 29; with_reducible refine HI.out.mono ?_; rintro e w' ⟨n, rfl, hO⟩)
  go_ret
  exact ⟨by rw [← hO.out.1]; rfl, hO.out.2⟩
end Go.Proofs.YtldmjipkmplhbaaDoor.fw
