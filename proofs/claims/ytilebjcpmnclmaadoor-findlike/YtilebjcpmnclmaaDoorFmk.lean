
/- The document's Masks. Conditions: a mask of at most 200 bytes. -/
import Derived.Test.YtilebjcpmnclmaaDoorFmj
namespace Go.Proofs.YtilebjcpmnclmaaDoor.fw
open Go.RowKit Go.Sort
theorem mk_many (r : List UInt8) : mkL (42 :: r) = (mkL r).map (Mk.many :: ·) := by
  cases r <;> simp [mkL]
theorem mk_one1 (r : List UInt8) : mkL (63 :: r) = (mkL r).map (Mk.one :: ·) := by
  cases r <;> simp [mkL]
theorem mk_mark (c : UInt8) (r : List UInt8) : mkL (126 :: c :: r) = (mkL r).map (Mk.byte c :: ·) := by simp [mkL]
theorem mk_end : mkL [126] = none := by simp [mkL]
theorem mk_byte (b : UInt8) (h1 : b ≠ 42) (h2 : b ≠ 63) (h3 : b ≠ 126) (r : List UInt8) : mkL (b :: r) = (mkL r).map (Mk.byte b :: ·) := by
  cases r <;> simp [mkL, h1, h2, h3]
/-- How a piece lies, in the document. -/
def mcs : Mk → List Value
  | .many => [.int .i64 1, .int .u8 0]
  | .one => [.int .i64 2, .int .u8 0]
  | .byte b => [.int .i64 0, .int .u8 (b.toNat : Int)]
def mL : EL Mk := ⟨33, 2, mcs, fun x => by cases x <;> rfl, fun x u hu => by cases x <;> (simp [mcs] at hu; rcases hu with rfl | rfl <;> rfl)⟩
theorem infoM : (Tryd.prog.info? 33).map (fun i => (i.zero, i.size, i.bytes)) = some (some (.agg #[.int .i64 0, .int .u8 0]), 2, 16) := by kernel_rfl
theorem RV.mask {w : World} {v : Value} {xs : List Mk} {wx : World} (h : RV mL w v xs wx) (hl : xs.length ≤ 1000) (y : Mk) (ys : Array Value) (hy : ys.toList = mcs y) :
    ∃ g c w', (Builtin.append_ #[22, 22] 22 #[v, .slice (some ⟨wx.heap.size, 0, none⟩) 1 1]).run Tryd.prog (wx.alloc (.cells ys 33)) = .ok (.slice (some ⟨g, 0, none⟩) (xs.length + 1) c) w' ∧ RV mL w (.slice (some ⟨g, 0, none⟩) (xs.length + 1) c) (xs ++ [y]) w' :=
  h.one 22 (b := 16) Tryd.underlying22 infoM rfl (by decide) (by omega) (by omega) y ys hy
/-- How far the mask is read. -/
def MR (s : List UInt8) (i : Nat) (X : List Mk) : Prop := mkL s = (mkL (s.drop i)).map (X ++ ·) ∧ X.length ≤ i
theorem MR.zero (s : List UInt8) : MR s 0 [] := ⟨by simp, Nat.le_refl _⟩
theorem MR.step {s : List UInt8} {i j : Nat} {X : List Mk} {p : Mk} (h : MR s i X) (e : mkL (s.drop i) = (mkL (s.drop j)).map (p :: ·)) (hij : i < j) : MR s j (X ++ [p]) := by
  refine ⟨?_, by rw [List.length_append, List.length_singleton]; have := h.2; omega⟩
  rw [h.1, e, Option.map_map]
  congr 1
  funext l
  simp
theorem MR.done {s : List UInt8} {i : Nat} {X : List Mk} (h : MR s i X) (hi : s.length ≤ i) : mkL s = some X := by
  rw [h.1, List.drop_eq_nil_of_le hi]
  simp [mkL]
theorem MR.fail {s : List UInt8} {i : Nat} {X : List Mk} (h : MR s i X) (hd : s.drop i = [126]) : mkL s = none := by
  rw [h.1, hd, mk_end]
  rfl
set_option maxRecDepth 1000000 in
set_option maxHeartbeats 4000000 in
theorem rmasks_any (m : ByteArray) (w : World) (hm : m.size ≤ 200) :
    Calls Tryd.prog 4 #[.string m] w fun e w' => (mkL m.toList = none ∧ e = .returned (.tuple #[.slice none 0 0, .bool false]) ∧ Bw w w') ∨ (∃ X v, mkL m.toList = some X ∧ X.length ≤ 200 ∧ e = .returned (.tuple #[v, .bool true]) ∧ RV mL w v X w') := by
  go_enter Tryd.func4, Tryd.ntmps4
  go_upto_block 0 with fail
  go_cut [4] (fun s4 wx => ∃ X, Hid (mkL m.toList = some X ∧ X.length ≤ 200) ∧ Hid (RV mL w s4 X wx))
  case first =>
    go_wp2_with fail
    go_loopw [4, 5] (fun s4 s5 wr => ∃ (i : Nat) (X : List Mk), s5 = .int .i64 (i : Int) ∧ i ≤ m.size ∧ Hid (MR m.toList i X) ∧ Hid (RV mL w s4 X wr)) (fun _ s5 _ => m.size - (intOf s5).toNat)
    case atStart => exact ⟨0, [], rfl, Nat.zero_le _, MR.zero _, RV.nil mL w⟩
    case round =>
      obtain ⟨i, X, rfl, hi, HX, HV⟩ := hrel
      by_cases hlt : i < m.size
      · have hlt' : (i : Int) < (m.size : Int) := by omega
        have hi0 : (0 : Int) ≤ (i : Int) := by omega
        have hi9 : (i : Int) < 200 := by omega
        obtain ⟨c, ec⟩ : ∃ c, m[i] = c := ⟨_, rfl⟩
        have HD : Hid (m.toList.drop i = c :: m.toList.drop (i + 1)) := by
          have h1 : i < m.toList.length := by rw [size_list]; exact hlt
          have h2 := at_l3 hlt
          rw [List.getElem?_eq_getElem h1] at h2
          show _ = _
          rw [List.drop_eq_getElem_cons h1, Option.some.inj h2, ec]
        have HL : Hid (X.length ≤ 1000) := by
          have := HX.out.2
          show X.length ≤ 1000
          omega
        obtain ⟨p4, c4, e4, -⟩ := HV.out.form
        subst e4
        by_cases h2 : c = 42
        · subst h2
          have HT : Hid (MR m.toList (i + 1) (X ++ [.many])) := HX.out.step (by rw [HD.out, mk_many]) (by omega)
          clear HX HD
          obtain ⟨g2, c2, w3, hr, hV3⟩ := HV.out.mask HL.out (.many) #[.int .i64 1, .int .u8 0] rfl
          have HR3 : Hid ((Builtin.append_ #[22, 22] 22 #[.slice p4 X.length c4, .slice (some ⟨wr.heap.size, 0, none⟩) 1 1]).run Tryd.prog (wr.alloc (.cells #[.int .i64 1, .int .u8 0] 33)) = .ok (.slice (some ⟨g2, 0, none⟩) (X.length + 1) c2) w3) := hr
          have HV3 : Hid (RV mL w (.slice (some ⟨g2, 0, none⟩) (X.length + 1) c2) (X ++ [.many]) w3) := hV3
          clear hr hV3 HV HL
          generalize X.length + 1 = n3 at *
          generalize X.length = n2 at *
          go_wp2_with (first | (at_builtin; refine wpList_append_eq rfl _ _ 22 22 rfl _ _ _ _ rfl rfl HR3.out ?_))
          exact ⟨⟨i + 1, X ++ [.many], rfl, hlt, HT, HV3⟩, by simp [intOf]; omega⟩
        · have hc2 : ¬ ((c.toNat : Int) = 42) := fun e => h2 (UInt8.toNat_inj.1 (by show c.toNat = 42; omega))
          by_cases h3 : c = 63
          · subst h3
            have HT : Hid (MR m.toList (i + 1) (X ++ [.one])) := HX.out.step (by rw [HD.out, mk_one1]) (by omega)
            clear HX HD
            obtain ⟨g2, c2, w3, hr, hV3⟩ := HV.out.mask HL.out (.one) #[.int .i64 2, .int .u8 0] rfl
            have HR3 : Hid ((Builtin.append_ #[22, 22] 22 #[.slice p4 X.length c4, .slice (some ⟨wr.heap.size, 0, none⟩) 1 1]).run Tryd.prog (wr.alloc (.cells #[.int .i64 2, .int .u8 0] 33)) = .ok (.slice (some ⟨g2, 0, none⟩) (X.length + 1) c2) w3) := hr
            have HV3 : Hid (RV mL w (.slice (some ⟨g2, 0, none⟩) (X.length + 1) c2) (X ++ [.one]) w3) := hV3
            clear hr hV3 HV HL
            generalize X.length + 1 = n3 at *
            generalize X.length = n2 at *
            go_wp2_with (first | (at_builtin; refine wpList_append_eq rfl _ _ 22 22 rfl _ _ _ _ rfl rfl HR3.out ?_))
            exact ⟨⟨i + 1, X ++ [.one], rfl, hlt, HT, HV3⟩, by simp [intOf]; omega⟩
          · have hc3 : ¬ ((c.toNat : Int) = 63) := fun e => h3 (UInt8.toNat_inj.1 (by show c.toNat = 63; omega))
            by_cases h1 : c = 126
            · subst h1
              by_cases hl2 : i + 1 < m.size
              · have hl3 : ¬ ((i : Int) + 1 = (m.size : Int)) := by omega
                have hl4 : (i : Int) + 1 < (m.size : Int) := by omega
                have hi1 : (0 : Int) ≤ (i : Int) + 1 := by omega
                obtain ⟨d, ed⟩ : ∃ d, m[i + 1] = d := ⟨_, rfl⟩
                have HT : Hid (MR m.toList (i + 2) (X ++ [.byte d])) := by
                  refine HX.out.step ?_ (by omega)
                  have h1 : i + 1 < m.toList.length := by rw [size_list]; exact hl2
                  have h2 := at_l3 hl2
                  rw [List.getElem?_eq_getElem h1] at h2
                  rw [HD.out, List.drop_eq_getElem_cons h1, Option.some.inj h2, ed, mk_mark]
                clear HX HD
                obtain ⟨g2, c2, w3, hr, hV3⟩ := HV.out.mask HL.out (.byte d) #[.int .i64 0, .int .u8 (d.toNat : Int)] rfl
                have HR3 : Hid ((Builtin.append_ #[22, 22] 22 #[.slice p4 X.length c4, .slice (some ⟨wr.heap.size, 0, none⟩) 1 1]).run Tryd.prog (wr.alloc (.cells #[.int .i64 0, .int .u8 (d.toNat : Int)] 33)) = .ok (.slice (some ⟨g2, 0, none⟩) (X.length + 1) c2) w3) := hr
                have HV3 : Hid (RV mL w (.slice (some ⟨g2, 0, none⟩) (X.length + 1) c2) (X ++ [.byte d]) w3) := hV3
                clear hr hV3 HV HL
                generalize X.length + 1 = n3 at *
                generalize X.length = n2 at *
                go_wp2_with (first | (at_builtin; refine wpList_append_eq rfl _ _ 22 22 rfl _ _ _ _ rfl rfl HR3.out ?_))
                exact ⟨⟨i + 2, X ++ [.byte d], rfl, hl2, HT, HV3⟩, by simp [intOf]; omega⟩
              · have hl3 : (i : Int) + 1 = (m.size : Int) := by omega
                have HF : Hid (mkL m.toList = none) := HX.out.fail (by rw [HD.out, List.drop_eq_nil_of_le (by rw [size_list]; omega)])
                clear HX HD HL
                go_wp2_with fail
                exact bodyPost_ret (v := .tuple #[.slice none 0 0, .bool false]) (by simp [results, Tryd.results4, go_sem]) rfl (.inl ⟨HF, rfl, HV.out.below⟩)
            · have hc1 : ¬ ((c.toNat : Int) = 126) := fun e => h1 (UInt8.toNat_inj.1 (by show c.toNat = 126; omega))
              have HT : Hid (MR m.toList (i + 1) (X ++ [.byte c])) := HX.out.step (by rw [HD.out, mk_byte c h2 h3 h1]) (by omega)
              clear HX HD h1 h2 h3
              obtain ⟨g2, c2, w3, hr, hV3⟩ := HV.out.mask HL.out (.byte c) #[.int .i64 0, .int .u8 (c.toNat : Int)] rfl
              have HR3 : Hid ((Builtin.append_ #[22, 22] 22 #[.slice p4 X.length c4, .slice (some ⟨wr.heap.size, 0, none⟩) 1 1]).run Tryd.prog (wr.alloc (.cells #[.int .i64 0, .int .u8 (c.toNat : Int)] 33)) = .ok (.slice (some ⟨g2, 0, none⟩) (X.length + 1) c2) w3) := hr
              have HV3 : Hid (RV mL w (.slice (some ⟨g2, 0, none⟩) (X.length + 1) c2) (X ++ [.byte c]) w3) := hV3
              clear hr hV3 HV HL
              generalize X.length + 1 = n3 at *
              generalize X.length = n2 at *
              go_wp2_with (first | (at_builtin; refine wpList_append_eq rfl _ _ 22 22 rfl _ _ _ _ rfl rfl HR3.out ?_))
              exact ⟨⟨i + 1, X ++ [.byte c], rfl, hlt, HT, HV3⟩, by simp [intOf]; omega⟩
      · have hlt' : ¬ (i : Int) < (m.size : Int) := by omega
        have HE : Hid (mkL m.toList = some X ∧ X.length ≤ 200) := ⟨HX.out.done (by rw [size_list]; omega), by have := HX.out.2; omega⟩
        go_wp2_with fail
        go_meet
        case rel => exact ⟨X, HE, HV⟩
  case rest =>
  obtain ⟨X, HE, HV⟩ := hcut
  apply_assumption
  go_wp2_with fail
  refine bodyPost_ret (v := .tuple #[u4, .bool true]) (by simp [results, Tryd.results4, go_sem]) rfl (.inr ⟨X, u4, HE.out.1, HE.out.2, rfl, HV.out⟩)
end Go.Proofs.YtilebjcpmnclmaaDoor.fw
