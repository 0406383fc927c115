
/- find.readMask and find.Like. Conditions: as each theorem says. -/
import Derived.Test.YtilebjcpmnclmaaDoorFmh
namespace Go.Proofs.YtilebjcpmnclmaaDoor.fw
open Go.RowKit Go.Sort
theorem infoP : (Tryd.prog.info? 42).map (fun i => (i.zero, i.size, i.bytes)) = some (some (.agg #[.bool false, .bool false, .int .u8 0]), 3, 3) := by kernel_rfl
theorem RV.piece {w : World} {v : Value} {xs : List Mk} {wx : World} (h : RV pL w v xs wx) (hl : xs.length ≤ 1000) (y : Mk) (ys : Array Value) (hy : ys.toList = pcs y) :
    ∃ g c w', (Builtin.append_ #[36, 36] 36 #[v, .slice (some ⟨wx.heap.size, 0, none⟩) 1 1]).run Tryd.prog (wx.alloc (.cells ys 42)) = .ok (.slice (some ⟨g, 0, none⟩) (xs.length + 1) c) w' ∧ RV pL w (.slice (some ⟨g, 0, none⟩) (xs.length + 1) c) (xs ++ [y]) w' :=
  h.one 36 (b := 3) Tryd.underlying36 infoP rfl (by decide) (by omega) (by omega) y ys hy
theorem rd_take (l : List UInt8) {i : Nat} {c : UInt8} (h : l[i]? = some c) : rdL false (l.take (i + 1)) = rst (rdL false (l.take i)) c := by
  unfold rdL
  rw [List.take_add_one, h]
  simp [List.foldl_append]
theorem rd_len (l : List UInt8) (e : Bool) : (rdL e l).1.length ≤ l.length := by
  induction l generalizing e with
  | nil => simp [rdL]
  | cons c l ih =>
    rw [rd_cons, List.length_append, List.length_cons]
    have h1 : (rst ([], e) c).1.length ≤ 1 := by
      unfold rst
      cases e
      · by_cases h1 : c = 126
        · simp [h1]
        · by_cases h2 : c = 42
          · simp [h2]
          · by_cases h3 : c = 63
            · simp [h3]
            · simp [h1, h2, h3]
      · simp
    have := ih (rst ([], e) c).2
    omega
set_option maxRecDepth 1000000 in
set_option maxHeartbeats 4000000 in
theorem readMask_any (m : ByteArray) (w : World) (hm : m.size ≤ 200) :
    Calls Tryd.prog 8 #[.string m] w fun e w' => ((rdL false m.toList).2 = true ∧ e = .returned (.tuple #[.slice none 0 0, .iface 35 (.int .i64 2)]) ∧ Bw w w') ∨ ((rdL false m.toList).2 = false ∧ ∃ v, e = .returned (.tuple #[v, .nilIface]) ∧ RV pL w v (rdL false m.toList).1 w') := by
  go_enter Tryd.func8, Tryd.ntmps8
  go_upto_block 0 with fail
  go_cut [4, 5] (fun s4 s5 wx => ∃ b, s5 = .bool b ∧ Hid ((rdL false m.toList).2 = b) ∧ Hid (RV pL w s4 (rdL false m.toList).1 wx))
  case first =>
    go_wp2_with fail
    go_loopw [4, 5, 10] (fun s4 s5 s10 wr => ∃ (i : Nat) (b : Bool) (X : List Mk), s10 = .int .i64 (i : Int) ∧ s5 = .bool b ∧ i ≤ m.size ∧ Hid (rdL false (m.toList.take i) = (X, b)) ∧ Hid (RV pL w s4 X wr)) (fun _ _ s10 _ => m.size - (intOf s10).toNat)
    case atStart => exact ⟨0, false, [], rfl, rfl, Nat.zero_le _, rfl, RV.nil pL w⟩
    case round =>
      obtain ⟨i, b, X, rfl, rfl, hi, HX, HV⟩ := hrel
      by_cases hlt : i < m.size
      · have hlt' : (i : Int) < (m.size : Int) := by omega
        have hi0 : (0 : Int) ≤ (i : Int) := by omega
        obtain ⟨c, ec⟩ : ∃ c, m[i] = c := ⟨_, rfl⟩
        have HT : Hid (rdL false (m.toList.take (i + 1)) = rst (X, b) c) := by
          show _ = _
          rw [rd_take m.toList (by rw [at_l3 hlt, ec]), HX.out]
        have HL : Hid (X.length ≤ 1000) := by
          have h1 := rd_len (m.toList.take i) false
          rw [HX.out, List.length_take] at h1
          show X.length ≤ 1000
          dsimp only at h1
          omega
        obtain ⟨p4, c4, e4, -⟩ := HV.out.form
        subst e4
        clear HX
        cases b
        · by_cases h1 : c = 126
          · subst h1
            have hc1 : ((126 : UInt8).toNat : Int) = 126 := rfl
            clear HL
            go_wp2_with fail
            exact ⟨⟨i + 1, true, X, rfl, rfl, hlt, HT, HV⟩, by simp [intOf]; omega⟩
          · have hc1 : ¬ ((c.toNat : Int) = 126) := fun e => h1 (UInt8.toNat_inj.1 (by show c.toNat = 126; omega))
            by_cases h2 : c = 42
            · subst h2
              obtain ⟨g2, c2, w3, hr, hV3⟩ := HV.out.piece HL.out (.many) #[.bool true, .bool false, .int .u8 0] rfl
              have HR3 : Hid ((Builtin.append_ #[36, 36] 36 #[.slice p4 X.length c4, .slice (some ⟨wr.heap.size, 0, none⟩) 1 1]).run Tryd.prog (wr.alloc (.cells #[.bool true, .bool false, .int .u8 0] 42)) = .ok (.slice (some ⟨g2, 0, none⟩) (X.length + 1) c2) w3) := hr
              have HV3 : Hid (RV pL w (.slice (some ⟨g2, 0, none⟩) (X.length + 1) c2) (X ++ [.many]) w3) := hV3
              clear hr hV3 HV HL
              generalize X.length + 1 = n3 at *
              generalize X.length = n2 at *
              go_wp2_with (first | (at_builtin; refine wpList_append_eq rfl _ _ 36 36 rfl _ _ _ _ rfl rfl HR3.out ?_))
              exact ⟨⟨i + 1, false, X ++ [.many], rfl, rfl, hlt, HT, HV3⟩, by simp [intOf]; omega⟩
            · have hc2 : ¬ ((c.toNat : Int) = 42) := fun e => h2 (UInt8.toNat_inj.1 (by show c.toNat = 42; omega))
              by_cases h3 : c = 63
              · subst h3
                obtain ⟨g2, c2, w3, hr, hV3⟩ := HV.out.piece HL.out (.one) #[.bool false, .bool true, .int .u8 0] rfl
                have HR3 : Hid ((Builtin.append_ #[36, 36] 36 #[.slice p4 X.length c4, .slice (some ⟨wr.heap.size, 0, none⟩) 1 1]).run Tryd.prog (wr.alloc (.cells #[.bool false, .bool true, .int .u8 0] 42)) = .ok (.slice (some ⟨g2, 0, none⟩) (X.length + 1) c2) w3) := hr
                have HV3 : Hid (RV pL w (.slice (some ⟨g2, 0, none⟩) (X.length + 1) c2) (X ++ [.one]) w3) := hV3
                clear hr hV3 HV HL
                generalize X.length + 1 = n3 at *
                generalize X.length = n2 at *
                go_wp2_with (first | (at_builtin; refine wpList_append_eq rfl _ _ 36 36 rfl _ _ _ _ rfl rfl HR3.out ?_))
                exact ⟨⟨i + 1, false, X ++ [.one], rfl, rfl, hlt, HT, HV3⟩, by simp [intOf]; omega⟩
              · have hc3 : ¬ ((c.toNat : Int) = 63) := fun e => h3 (UInt8.toNat_inj.1 (by show c.toNat = 63; omega))
                have HT2 : Hid (rdL false (m.toList.take (i + 1)) = (X ++ [.byte c], false)) := by
                  show _ = _
                  rw [HT.out]
                  simp [rst, h1, h2, h3]
                clear HT
                have HT := HT2
                clear h1 h2 h3 HT2
                obtain ⟨g2, c2, w3, hr, hV3⟩ := HV.out.piece HL.out (.byte c) #[.bool false, .bool false, .int .u8 (c.toNat : Int)] rfl
                have HR3 : Hid ((Builtin.append_ #[36, 36] 36 #[.slice p4 X.length c4, .slice (some ⟨wr.heap.size, 0, none⟩) 1 1]).run Tryd.prog (wr.alloc (.cells #[.bool false, .bool false, .int .u8 (c.toNat : Int)] 42)) = .ok (.slice (some ⟨g2, 0, none⟩) (X.length + 1) c2) w3) := hr
                have HV3 : Hid (RV pL w (.slice (some ⟨g2, 0, none⟩) (X.length + 1) c2) (X ++ [.byte c]) w3) := hV3
                clear hr hV3 HV HL
                generalize X.length + 1 = n3 at *
                generalize X.length = n2 at *
                go_wp2_with (first | (at_builtin; refine wpList_append_eq rfl _ _ 36 36 rfl _ _ _ _ rfl rfl HR3.out ?_))
                exact ⟨⟨i + 1, false, X ++ [.byte c], rfl, rfl, hlt, HT, HV3⟩, by simp [intOf]; omega⟩
        · obtain ⟨g2, c2, w3, hr, hV3⟩ := HV.out.piece HL.out (.byte c) #[.bool false, .bool false, .int .u8 (c.toNat : Int)] rfl
          have HR3 : Hid ((Builtin.append_ #[36, 36] 36 #[.slice p4 X.length c4, .slice (some ⟨wr.heap.size, 0, none⟩) 1 1]).run Tryd.prog (wr.alloc (.cells #[.bool false, .bool false, .int .u8 (c.toNat : Int)] 42)) = .ok (.slice (some ⟨g2, 0, none⟩) (X.length + 1) c2) w3) := hr
          have HV3 : Hid (RV pL w (.slice (some ⟨g2, 0, none⟩) (X.length + 1) c2) (X ++ [.byte c]) w3) := hV3
          clear hr hV3 HV HL
          generalize X.length + 1 = n3 at *
          generalize X.length = n2 at *
          go_wp2_with (first | (at_builtin; refine wpList_append_eq rfl _ _ 36 36 rfl _ _ _ _ rfl rfl HR3.out ?_))
          exact ⟨⟨i + 1, false, X ++ [.byte c], rfl, rfl, hlt, HT, HV3⟩, by simp [intOf]; omega⟩
      · have hlt' : ¬ (i : Int) < (m.size : Int) := by omega
        have e1 : m.toList.take i = m.toList := List.take_of_length_le (by rw [size_list]; omega)
        rw [e1] at HX
        go_wp2_with fail
        go_meet
        case rel => exact ⟨b, rfl, by show _ = _; rw [HX.out], by rw [HX.out]; exact HV⟩
  case rest =>
  obtain ⟨b, rfl, HB, HV⟩ := hcut
  apply_assumption
  cases b
  · go_wp2_with fail
    refine bodyPost_ret (v := .tuple #[u4, .nilIface]) (by simp [results, Tryd.results8, go_sem]) rfl (.inr ⟨HB, _, rfl, HV.out⟩)
  · go_wp2_with fail
    refine bodyPost_ret (v := .tuple #[.slice none 0 0, .iface 35 (.int .i64 2)]) (by simp [results, Tryd.results8, go_sem]) rfl (.inl ⟨HB, rfl, HV.out.below⟩)
end Go.Proofs.YtilebjcpmnclmaaDoor.fw
