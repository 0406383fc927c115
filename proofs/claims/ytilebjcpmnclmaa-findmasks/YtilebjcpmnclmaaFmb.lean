
/- The law FindMasks, whole, by what Like answers. Conditions: as each theorem says. -/
import Derived.Test.YtilebjcpmnclmaaFma
namespace Go.Proofs.Ytilebjcpmnclmaa.fw
open Go.RowKit Go.Sort
theorem BV.two {w : World} {v : Value} {xs : List UInt8} {wx : World} (h : BV w v xs wx) (hl : xs.length < 140737488355326) (y z : UInt8) :
    ∃ g c w', (Builtin.append_ #[26, 26] 26 #[v, .slice (some ⟨wx.heap.size, 0, none⟩) 2 2]).run Try.prog (wx.alloc (.cells #[.int .u8 (y.toNat : Int), .int .u8 (z.toNat : Int)] 5)) = .ok (.slice (some ⟨g, 0, none⟩) (xs.length + 2) c) w' ∧ BV w (.slice (some ⟨g, 0, none⟩) (xs.length + 2) c) (xs ++ [y, z]) w' := by
  obtain ⟨i0, hi, hz0, hz1, hz2⟩ := info_parts info5
  have hmax : maxLen = 9223372036854775807 := rfl
  have h1 := h.next (Bw.al wx (.cells #[.int .u8 (y.toNat : Int), .int .u8 (z.toNat : Int)] 5))
  obtain ⟨g, c, w', r1, r2, r3, -, -⟩ := run_append_lies (P := Try.prog) (w := wx.alloc (.cells #[.int .u8 (y.toNat : Int), .int .u8 (z.toNat : Int)] 5)) 26 26 w.heap.size 5 i0 (.int .u8 0) 1 1 Try.underlying26 hi hz0 hz1 hz2 rfl (by decide) v xs.length (bys xs) h1.own ⟨wx.heap.size, 0, none⟩ 2 2 [.int .u8 (y.toNat : Int), .int .u8 (z.toNat : Int)] rfl (World.news_of_block (heap_alloc_new wx _)) (by simp [Value.oneCell']) (by decide) (by omega) (by omega) h1.below.size _ rfl
  refine ⟨g, c, w', r1, ⟨?_, h1.below.grown r3 h1.below.size (fun q hq => (h1.own.lt q hq).1)⟩⟩
  have e : bys (xs ++ [y, z]) = bys xs ++ [.int .u8 (y.toNat : Int), .int .u8 (z.toNat : Int)] := by simp [bys]
  rw [e, List.length_append]
  exact r2
theorem at_list2 {s : ByteArray} {i : Nat} (h : i < s.size) : s.toList[i]? = some s[i] := by
  rw [ByteArray.toList_eq, Array.getElem?_toList]
  exact Array.getElem?_eq_getElem h
theorem txt_tl (l : List UInt8) : (txt l).toList = l := by rw [ByteArray.toList_eq]; simp [txt]
theorem tl_app (a b : ByteArray) : (a ++ b).toList = a.toList ++ b.toList := by
  rw [ByteArray.toList_eq, ByteArray.toList_eq, ByteArray.toList_eq, ByteArray.data_append, Array.toList_append]
set_option maxRecDepth 1000000 in
set_option maxHeartbeats 8000000 in
theorem findMasks_any (t o : ByteArray) (w0 : World)
    (HL : Hid (∀ (s m : ByteArray) wx, s.size ≤ 200 → m.size ≤ 200 → liE m.toList = 0 → Bw w0 wx → Calls Try.prog 4 #[.string s, .string m] wx fun e w' => e = .returned (.tuple #[.bool (liB s.toList m.toList), .nilIface]) ∧ Bw wx w')) :
    Calls Try.prog 3 #[.string t, .string o] w0 fun e w' => e = .returned (.bool true) ∧ Bw w0 w' := by
  have f0 : Calls Try.prog 4 #[.string ⟨#[97, 98, 99]⟩, .string ⟨#[97, 63, 42]⟩] w0 fun e w' => e = .returned (.tuple #[.bool true, .nilIface]) ∧ Bw w0 w' := by
    have e1 : (⟨#[97, 98, 99]⟩ : ByteArray).toList = [97, 98, 99] := by rw [ByteArray.toList_eq]
    have e2 : (⟨#[97, 63, 42]⟩ : ByteArray).toList = [97, 63, 42] := by rw [ByteArray.toList_eq]
    have h := HL.out ⟨#[97, 98, 99]⟩ ⟨#[97, 63, 42]⟩ w0 (by decide) (by decide) (by rw [e2]; exact li_fact.2) (Below.refl _ _)
    rw [e1, e2, li_fact.1] at h
    exact h
  go_enter Try.func3, Try.ntmps3
  go_wp2_with fail
  refine f0.mono ?_
  rintro e w1 ⟨rfl, hb1⟩
  have HB1 : Hid (Bw w0 w1) := hb1
  clear f0 hb1
  by_cases ht : t.size ≤ 90
  · have ht' : ¬ (t.size : Int) > 90 := by omega
    by_cases ho : o.size ≤ 90
    · have ho' : ¬ (o.size : Int) > 90 := by omega
      go_upto_block 0 with fail
      go_cut [7] (fun s7 wx => Hid (BV w0 s7 (escL t.toList) wx))
      case first =>
        go_wp2_with fail
        go_loopw [7, 8] (fun s7 s8 wr => ∃ i : Nat, s8 = .int .i64 (i : Int) ∧ i ≤ t.size ∧ Hid (BV w0 s7 (escL (t.toList.take i)) wr)) (fun _ s8 _ => t.size - (intOf s8).toNat)
        case atStart => exact ⟨0, rfl, Nat.zero_le _, (BV.nil w0).next HB1.out⟩
        case round =>
          obtain ⟨i, rfl, hi, HB⟩ := hrel
          by_cases hlt : i < t.size
          · have hlt' : (i : Int) < (t.size : Int) := by omega
            have hi0 : (0 : Int) ≤ (i : Int) := by omega
            obtain ⟨p, cc, e7, -⟩ := HB.out.form
            subst e7
            obtain ⟨g2, c2, w3, hr, hV3⟩ := HB.out.two (by rw [escL_len, List.length_take]; omega) 126 t[i]
            have HV3 : Hid (BV w0 (.slice (some ⟨g2, 0, none⟩) ((escL (t.toList.take i)).length + 2) c2) (escL (t.toList.take (i + 1))) w3) := by
              show BV _ _ _ _
              rw [List.take_add_one, at_list2 hlt]
              show BV _ _ (escL (t.toList.take i ++ [t[i]])) _
              rw [escL_snoc]
              exact hV3
            have HRR : Hid ((Builtin.append_ #[26, 26] 26 #[.slice p (escL (t.toList.take i)).length cc, .slice (some ⟨wr.heap.size, 0, none⟩) 2 2]).run Try.prog (wr.alloc (.cells #[.int .u8 126, .int .u8 (t[i].toNat : Int)] 5)) = .ok (.slice (some ⟨g2, 0, none⟩) ((escL (t.toList.take i)).length + 2) c2) w3) := hr
            clear hr hV3 HB
            generalize (escL (t.toList.take i)).length = bl at *
            go_wp2_with (first | (at_builtin; refine wpList_append_eq rfl _ _ 26 26 rfl _ _ _ _ rfl rfl HRR.out ?_))
            exact ⟨⟨i + 1, rfl, hlt, HV3⟩, by simp [intOf]; omega⟩
          · have hlt' : ¬ (i : Int) < (t.size : Int) := by omega
            have HE : Hid (BV w0 u7 (escL t.toList) wr) := by
              have e1 : t.toList.take i = t.toList := List.take_of_length_le (by rw [size_list]; omega)
              have := HB.out
              rw [e1] at this
              exact this
            clear HB
            go_wp2_with fail
            go_meet
            case rel => exact HE
      case rest =>
      have HV : Hid (BV w0 u7 (escL t.toList) wc) := hcut
      clear hcut
      apply_assumption
      obtain ⟨p, cc, e7, hform⟩ := HV.out.form
      have HCV : Hid (∀ wx, Bw wc wx → (convert 26 9 (.slice p (escL t.toList).length cc)).run Try.prog wx = .ok (.string (txt (escL t.toList))) wx) := fun wx hb => by
        rcases hform with ⟨h0, rfl, rfl⟩ | ⟨g, rfl, -⟩
        · rw [h0, List.eq_nil_of_length_eq_zero h0]
          exact nil_text wx
        · have h := HV.out
          rw [e7] at h
          have := (h.next hb).text (escL t.toList).length cc (Nat.le_refl _)
          rwa [List.take_length] at this
      have HB2 : Hid (Bw w0 wc) := HV.out.below
      subst e7
      clear hform HV
      have hlen : (escL t.toList).length ≤ 180 := by rw [escL_len, size_list]; omega
      have hsz : (txt (escL t.toList)).size = (escL t.toList).length := rfl
      have h1 := fun wx hb => HL.out t (txt (escL t.toList)) wx (by omega) (by omega) (by rw [txt_tl]; exact (li_self t.toList t.toList).2) hb
      have h2 := fun wx hb => HL.out o (txt (escL t.toList)) wx (by omega) (by omega) (by rw [txt_tl]; exact (li_self t.toList o.toList).2) hb
      have e42 : (⟨#[42]⟩ : ByteArray).toList = [42] := by rw [ByteArray.toList_eq]
      have h3 := fun wx hb => HL.out o ⟨#[42]⟩ wx (by omega) (by decide) (by rw [e42]; exact (li_many o.toList).2) hb
      have h4 := fun wx hb => HL.out (t ++ o) (txt (escL t.toList) ++ ⟨#[42]⟩) wx (by rw [ByteArray.size_append]; omega) (by rw [ByteArray.size_append, hsz]; show _ + 1 ≤ _; omega) (by rw [tl_app, txt_tl, e42]; exact (li_more t.toList o.toList).2) hb
      rw [txt_tl, (li_self t.toList t.toList).1, decide_eq_true rfl] at h1
      rw [txt_tl, (li_self t.toList o.toList).1] at h2
      rw [e42, (li_many o.toList).1] at h3
      rw [tl_app, tl_app, txt_tl, e42, (li_more t.toList o.toList).1] at h4
      have H1 : Hid (∀ wx, Bw w0 wx → Calls Try.prog 4 #[.string t, .string (txt (escL t.toList))] wx fun e w' => e = .returned (.tuple #[.bool true, .nilIface]) ∧ Bw wx w') := h1
      have H2 : Hid (∀ wx, Bw w0 wx → Calls Try.prog 4 #[.string o, .string (txt (escL t.toList))] wx fun e w' => e = .returned (.tuple #[.bool (decide (t.toList = o.toList)), .nilIface]) ∧ Bw wx w') := h2
      have H3 : Hid (∀ wx, Bw w0 wx → Calls Try.prog 4 #[.string o, .string ⟨#[42]⟩] wx fun e w' => e = .returned (.tuple #[.bool true, .nilIface]) ∧ Bw wx w') := h3
      have H4 : Hid (∀ wx, Bw w0 wx → Calls Try.prog 4 #[.string (t ++ o), .string (txt (escL t.toList) ++ ⟨#[42]⟩)] wx fun e w' => e = .returned (.tuple #[.bool true, .nilIface]) ∧ Bw wx w') := h4
      clear h1 h2 h3 h4 HL e42
      obtain ⟨q, hq⟩ : ∃ q, decide (t.toList = o.toList) = q := ⟨_, rfl⟩
      have hqq : (t.toList == o.toList) = q := by rw [← hq]; by_cases h : t.toList = o.toList <;> simp [h]
      rw [hq] at H2
      clear hq
      rw [← hsz] at hlen HCV ⊢
      generalize txt (escL t.toList) = M at *
      clear hsz
      have hz1 : ¬ 9223372036854775807 < t.size + o.size := by omega
      have hz2 : ¬ 9223372036854775807 < M.size + 1 := by omega
      have hc0 := HCV.out wc (Below.refl _ _)
      go_wp2_with fail
      refine (H1.out _ HB2.out).mono ?_
      rintro e w3 ⟨rfl, hb3⟩
      have HB3 : Hid (Bw wc w3) := hb3
      have hc3 := HCV.out w3 HB3.out
      clear hb3 H1 hc0
      go_wp2_with fail
      refine (H2.out _ (HB2.out.tr HB3.out)).mono ?_
      rintro e w4 ⟨rfl, hb4⟩
      have HB4 : Hid (Bw wc w4) := HB3.out.tr hb4
      clear hb4 H2 hc3 HB3
      go_wp2_with fail
      refine (H3.out _ (HB2.out.tr HB4.out)).mono ?_
      rintro e w5 ⟨rfl, hb5⟩
      have HB5 : Hid (Bw wc w5) := HB4.out.tr hb5
      have hc5 := HCV.out w5 HB5.out
      clear hb5 H3 HB4
      go_wp2_with fail
      refine (H4.out _ (HB2.out.tr HB5.out)).mono ?_
      rintro e w6 ⟨rfl, hb6⟩
      have HB6 : Hid (Bw w0 w6) := (HB2.out.tr HB5.out).tr hb6
      clear hb6 H4 hc5 HB5 HCV HB2
      cases q with
      | true =>
        go_wp2_with fail
        go_ret
        exact ⟨rfl, HB6.out⟩
      | false =>
        go_wp2_with fail
        go_ret
        exact ⟨rfl, HB6.out⟩
    · have ho' : (o.size : Int) > 90 := by omega
      go_wp2_with fail
      go_ret
      exact ⟨rfl, HB1.out⟩
  · have ht' : (t.size : Int) > 90 := by omega
    go_wp2_with fail
    go_ret
    exact ⟨rfl, HB1.out⟩
end Go.Proofs.Ytilebjcpmnclmaa.fw
