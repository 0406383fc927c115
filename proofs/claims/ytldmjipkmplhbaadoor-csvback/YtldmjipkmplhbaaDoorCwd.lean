
/- csv.ending, readQuoted, readField: walked. Conditions: as each theorem says. -/
import Derived.Test.YtldmjipkmplhbaaDoorCwb
import Derived.Test.YtldmjipkmplhbaaDoorShk
namespace Go.Proofs.YtldmjipkmplhbaaDoor.fw
open Go.RowKit Go.Sort
set_option maxRecDepth 1000000 in
set_option maxHeartbeats 4000000 in
theorem ending_any (s : ByteArray) (w : World) :
    Calls Tryd.prog 27 #[.string s] w fun e w' => e = .returned (.string (enZ s.toList)) ∧ Bw w w' := by
  obtain ⟨t1, t2, t3, t4⟩ := en_tests s.toList
  have T1 : Hid (Lib.hasPrefix s.toList [44] = true → enZ s.toList = ⟨#[44]⟩) := t1
  have T2 : Hid (Lib.hasPrefix s.toList [10] = true → enZ s.toList = ⟨#[10]⟩) := t2
  have T3 : Hid (Lib.hasPrefix s.toList [13, 10] = true → enZ s.toList = ⟨#[13, 10]⟩) := t3
  have T4 : Hid (Lib.hasPrefix s.toList [44] = false → Lib.hasPrefix s.toList [10] = false → Lib.hasPrefix s.toList [13, 10] = false → enZ s.toList = nul) := t4
  clear t1 t2 t3 t4
  obtain ⟨Z, hZ⟩ : ∃ Z, enZ s.toList = Z := ⟨_, rfl⟩
  rw [hZ] at T1 T2 T3 T4 ⊢
  clear hZ
  have HP : ∀ (p : ByteArray) (wx : World), Calls Tryd.prog 35 #[.string s, .string p] wx fun e w' => e = .returned (.bool (Lib.hasPrefix s.toList p.toList)) ∧ w' = wx := fun p wx => by
    have := Tryd.strings_HasPrefix s p wx
    rw [data_list, data_list] at this
    exact this
  go_enter Tryd.func27, Tryd.ntmps27
  go_upto_block 0 with fail
  obtain ⟨W1, hW1⟩ : ∃ W1, W1 = w.alloc (Obj.cells #[Value.string { data := #[44] }, Value.string { data := #[10] }, Value.string { data := #[13, 10] }] 9) := ⟨_, rfl⟩
  have c0 : W1.cell? ⟨w.heap.size, 0, none⟩ = some (.string ⟨#[44]⟩) := by rw [hW1, World.cell?_alloc_at _ _ _ _ (by simp)]; rfl
  have c1 : W1.cell? ⟨w.heap.size, 1, none⟩ = some (.string ⟨#[10]⟩) := by rw [hW1, World.cell?_alloc_at _ _ _ _ (by simp)]; rfl
  have c2 : W1.cell? ⟨w.heap.size, 2, none⟩ = some (.string ⟨#[13, 10]⟩) := by rw [hW1, World.cell?_alloc_at _ _ _ _ (by simp)]; rfl
  have HB : Hid (Bw w W1) := by rw [hW1]; exact Bw.al w _
  rw [← hW1]
  clear hW1
  generalize w.heap.size = gz at c0 c1 c2 ⊢
  go_wp2_with fail
  go_loopw [7] (fun s7 wr => ∃ i : Nat, s7 = .int .i64 (i : Int) ∧ i ≤ 3 ∧ W1 = wr ∧ Hid (match i with | 0 => True | 1 => Lib.hasPrefix s.toList [44] = false | 2 => Lib.hasPrefix s.toList [44] = false ∧ Lib.hasPrefix s.toList [10] = false | _ => Lib.hasPrefix s.toList [44] = false ∧ Lib.hasPrefix s.toList [10] = false ∧ Lib.hasPrefix s.toList [13, 10] = false)) (fun s7 _ => 3 - (intOf s7).toNat)
  case atStart => exact ⟨0, rfl, Nat.zero_le _, rfl, trivial⟩
  case round =>
    obtain ⟨i, rfl, hi, rfl, HM⟩ := hrel
    match i, hi, HM with
    | 0, _, _ =>
      have el : (ByteArray.mk #[44]).toList = [44] := by decide +kernel
      by_cases hp : Lib.hasPrefix s.toList [44] = true
      · have hz : Z = ⟨#[44]⟩ := T1.out hp
        subst hz
        go_wp2_with (go_at_call 35; with_reducible refine (HP _ _).mono ?_; rintro e w' ⟨rfl, rfl⟩; rw [el, hp])
        exact bodyPost_ret (v := .string ⟨#[44]⟩) (by simp [results, Tryd.results27, go_sem]) rfl ⟨rfl, HB.out⟩
      · have hp' := Bool.eq_false_iff.2 hp
        have HN : Hid (Lib.hasPrefix s.toList [44] = false) := hp'
        clear hp
        go_wp2_with (go_at_call 35; with_reducible refine (HP _ _).mono ?_; rintro e w' ⟨rfl, rfl⟩; rw [el, hp'])
        exact ⟨⟨1, rfl, by decide, trivial, HN⟩, by simp [intOf]⟩
    | 1, _, HM =>
      have HQ0 : Hid (Lib.hasPrefix s.toList [44] = false) := HM
      clear HM
      have el : (ByteArray.mk #[10]).toList = [10] := by decide +kernel
      by_cases hp : Lib.hasPrefix s.toList [10] = true
      · have hz : Z = ⟨#[10]⟩ := T2.out hp
        subst hz
        go_wp2_with (go_at_call 35; with_reducible refine (HP _ _).mono ?_; rintro e w' ⟨rfl, rfl⟩; rw [el, hp])
        exact bodyPost_ret (v := .string ⟨#[10]⟩) (by simp [results, Tryd.results27, go_sem]) rfl ⟨rfl, HB.out⟩
      · have hp' := Bool.eq_false_iff.2 hp
        have HN : Hid (Lib.hasPrefix s.toList [44] = false ∧ Lib.hasPrefix s.toList [10] = false) := ⟨HQ0.out, hp'⟩
        clear hp
        go_wp2_with (go_at_call 35; with_reducible refine (HP _ _).mono ?_; rintro e w' ⟨rfl, rfl⟩; rw [el, hp'])
        exact ⟨⟨2, rfl, by decide, trivial, HN⟩, by simp [intOf]⟩
    | 2, _, HM =>
      have HQ0 : Hid (Lib.hasPrefix s.toList [44] = false) := HM.out.1
      have HQ1 : Hid (Lib.hasPrefix s.toList [10] = false) := HM.out.2
      clear HM
      have el : (ByteArray.mk #[13, 10]).toList = [13, 10] := by decide +kernel
      by_cases hp : Lib.hasPrefix s.toList [13, 10] = true
      · have hz : Z = ⟨#[13, 10]⟩ := T3.out hp
        subst hz
        go_wp2_with (go_at_call 35; with_reducible refine (HP _ _).mono ?_; rintro e w' ⟨rfl, rfl⟩; rw [el, hp])
        exact bodyPost_ret (v := .string ⟨#[13, 10]⟩) (by simp [results, Tryd.results27, go_sem]) rfl ⟨rfl, HB.out⟩
      · have hp' := Bool.eq_false_iff.2 hp
        have HN : Hid (Lib.hasPrefix s.toList [44] = false ∧ Lib.hasPrefix s.toList [10] = false ∧ Lib.hasPrefix s.toList [13, 10] = false) := ⟨HQ0.out, HQ1.out, hp'⟩
        clear hp
        go_wp2_with (go_at_call 35; with_reducible refine (HP _ _).mono ?_; rintro e w' ⟨rfl, rfl⟩; rw [el, hp'])
        exact ⟨⟨3, rfl, by decide, trivial, HN⟩, by simp [intOf]⟩
    | 3, _, HM =>
      have hz : Z = nul := T4.out HM.out.1 HM.out.2.1 HM.out.2.2
      clear HM
      subst hz
      go_wp2_with fail
      go_ret
      exact ⟨rfl, HB.out⟩
/-- An error, by its number. -/
def errV (e : Int) : Value := if e = 0 then .nilIface else .iface 42 (.int .i64 e)
/-- What readField answers. -/
def RfO (w : World) (L : List UInt8) (e : Ending) (w' : World) : Prop :=
  ((∃ f n, FO L f n ∧ e = .returned (.tuple #[.string (txt f), .int .i64 (n : Nat), .nilIface])) ∨ (∃ n, FE L n ∧ e = .returned (.tuple #[.string nul, .int .i64 (n : Nat), .iface 42 (.int .i64 2)]))) ∧ Bw w w'
/-- Where the loop over a field between marks ends. -/
def QE (L : List UInt8) (n : Nat) (op : Bool) : Prop := ∃ f, QN L f n op ∧ 1 ≤ n ∧ n ≤ L.length ∧ (op = true → n = L.length) ∧ (op = false → n < L.length → ∃ c, L[n]? = some c ∧ c ≠ 34)
theorem QE.err1 {L : List UInt8} {n : Nat} (h : QE L n true) : FE L n := by
  obtain ⟨f, h1, -, -, h3, -⟩ := h
  exact h1.open_end (h3 rfl)
theorem QE.err2 {L : List UInt8} {n : Nat} (h : QE L n false) (hl : n < L.length) (he : enL (L.drop n) = 0) : FE L n := by
  obtain ⟨f, h1, h2, -, -, h4⟩ := h
  obtain ⟨c, hc, h34⟩ := h4 rfl hl
  exact h1.err h2 hc h34 he
theorem QE.fo {L : List UInt8} {n : Nat} (h : QE L n false) (he : n < L.length → 0 < enL (L.drop n)) : ∃ f, FO L f n ∧ L.take n = 34 :: esq f ++ [34] ∧ 2 ≤ n := by
  obtain ⟨f, h1, h2, -, -, h4⟩ := h
  exact ⟨f, h1.fo h2 he⟩
theorem mid_esq (s : ByteArray) (f : List UInt8) (n : Nat) (h : s.toList.take n = 34 :: esq f ++ [34]) (h2 : 2 ≤ n) (h0 : n ≤ s.toList.length) : (s.extract 1 (n - 1)).toList = esq f := by
  rw [ext_list]
  have e : (s.toList.drop 1).take (n - 1 - 1) = ((s.toList.take n).drop 1).take (n - 1 - 1) := by
    rw [List.drop_take, List.take_take]
    congr 1
    omega
  have hl := congrArg List.length h
  rw [List.length_take] at hl
  simp only [List.length_append, List.length_cons, List.length_nil] at hl
  rw [e, h]
  show (esq f ++ [34]).take (n - 1 - 1) = esq f
  have : n - 1 - 1 = (esq f).length := by omega
  rw [this, List.take_left]
theorem at_l {s : ByteArray} {i : Nat} (h : i < s.size) : s.toList[i]? = some s[i] := by
  rw [ByteArray.toList_eq, Array.getElem?_toList]
  exact Array.getElem?_eq_getElem h
set_option maxRecDepth 1000000 in
set_option maxHeartbeats 4000000 in
theorem readQuoted_any (s : ByteArray) (w : World) (hs : s.size ≤ 4000) (h34 : s.toList[0]? = some 34) (hm : ∃ m, w.cell? ⟨1, 0, none⟩ = some (.int .i64 m)) :
    Calls Tryd.prog 36 #[.string s] w fun e w' => RfO w s.toList e w' := by
  have HM : Hid (∃ m, w.cell? ⟨1, 0, none⟩ = some (.int .i64 m)) := hm
  have H0 : Hid (s.toList[0]? = some 34) := h34
  have hn : (s.size : Int) ≤ 4000 := by omega
  have hlen : s.toList.length = s.size := size_list s
  have HLN : Hid (s.toList.length = s.size) := hlen
  clear hm h34 hs hlen
  go_enter Tryd.func36, Tryd.ntmps36
  go_upto_block 0 with fail
  go_cut [5, 6] (fun s5 s6 wx => ∃ (n : Nat) (op : Bool), s5 = .bool op ∧ s6 = .int .i64 (n : Int) ∧ w = wx ∧ Hid (QE s.toList n op))
  case first =>
    go_wp2_with fail
    go_loopw [5, 6, 12] (fun s5 s6 s12 wr => ∃ (i : Nat) (op : Bool), s5 = .bool op ∧ s6 = .int .i64 (s.size : Int) ∧ s12 = .int .i64 (i : Int) ∧ i ≤ s.size ∧ w = wr ∧ Hid (∃ f, QN s.toList f i op)) (fun _ _ s12 _ => s.size - (intOf s12).toNat)
    case atStart => exact ⟨0, false, rfl, rfl, rfl, Nat.zero_le _, rfl, [], by unfold QN; rw [if_neg (by decide), if_pos rfl]⟩
    case round =>
      obtain ⟨i, op, rfl, rfl, rfl, hi, rfl, HF⟩ := hrel
      by_cases hlt : i < s.size
      · have hlt' : (i : Int) < (s.size : Int) := by omega
        have hi0 : (0 : Int) ≤ (i : Int) := by omega
        have HC : Hid (s.toList[i]? = some s[i]) := at_l hlt
        by_cases hb : s[i] = 34
        · have hbz : (((s[i].toNat : Nat) : Int) == 34) = true := by rw [hb]; rfl
          cases op with
          | true =>
            have HF2 : Hid (∃ f, QN s.toList f (i + 1) false) := by
              obtain ⟨f, hf⟩ := HF.out
              exact ⟨f, hf.close (by rw [HC.out, hb])⟩
            clear HF
            go_wp2_with fail
            exact ⟨⟨i + 1, false, rfl, rfl, rfl, hlt, by first | rfl | trivial, HF2⟩, by simp [intOf]; omega⟩
          | false =>
            have HF2 : Hid (∃ f, QN s.toList f (i + 1) true) := by
              obtain ⟨f, hf⟩ := HF.out
              by_cases h0 : i = 0
              · subst h0
                exact ⟨_, QN.first H0.out⟩
              · exact ⟨_, hf.again (by omega) (by rw [HC.out, hb])⟩
            clear HF
            go_wp2_with fail
            exact ⟨⟨i + 1, true, rfl, rfl, rfl, hlt, by first | rfl | trivial, HF2⟩, by simp [intOf]; omega⟩
        · have hbz : (((s[i].toNat : Nat) : Int) == 34) = false := by
            refine beq_eq_false_iff_ne.2 fun e => hb ?_
            have : s[i].toNat = 34 := by omega
            exact UInt8.toNat_inj.1 this
          cases op with
          | true =>
            have HF2 : Hid (∃ f, QN s.toList f (i + 1) true) := by
              obtain ⟨f, hf⟩ := HF.out
              exact ⟨_, hf.more HC.out hb⟩
            clear HF
            go_wp2_with fail
            exact ⟨⟨i + 1, true, rfl, rfl, rfl, hlt, by first | rfl | trivial, HF2⟩, by simp [intOf]; omega⟩
          | false =>
            have HQ : Hid (QE s.toList i false) := by
              obtain ⟨f, hf⟩ := HF.out
              have h1 : 1 ≤ i := by
                by_cases h0 : i = 0
                · subst h0
                  have := HC.out.symm.trans H0.out
                  exact absurd (Option.some.inj this) hb
                · omega
              exact ⟨f, hf, h1, by rw [HLN.out]; exact hi, fun h => absurd h (by decide), fun _ _ => ⟨_, HC.out, hb⟩⟩
            clear HF
            go_wp2_with fail
            go_meet
            case rel => exact ⟨i, false, rfl, rfl, rfl, HQ⟩
      · have hlt' : ¬ (i : Int) < (s.size : Int) := by omega
        obtain rfl : i = s.size := by omega
        have HQ : Hid (QE s.toList s.size op) := by
          obtain ⟨f, hf⟩ := HF.out
          have h1 : 1 ≤ s.size := by have := (List.getElem?_eq_some_iff.1 H0.out).1; rw [HLN.out] at this; omega
          exact ⟨f, hf, h1, by rw [HLN.out]; exact Nat.le_refl _, fun _ => HLN.out.symm, fun _ h => by rw [HLN.out] at h; omega⟩
        clear HF
        go_wp2_with fail
        go_meet
        case rel => exact ⟨s.size, op, rfl, rfl, rfl, HQ⟩
  case rest =>
  obtain ⟨n, op, rfl, rfl, rfl, HQ⟩ := hcut
  apply_assumption
  have hn0 : (0 : Int) ≤ (n : Int) := by omega
  have HNL : Hid (n ≤ s.size) := by obtain ⟨f, -, -, h, -⟩ := HQ.out; rw [HLN.out] at h; exact h
  have hnl : (n : Int) ≤ (s.size : Int) := by have := HNL.out; omega
  cases op with
  | true =>
    have HR : Hid (RfO w s.toList (.returned (.tuple #[.string nul, .int .i64 (n : Int), .iface 42 (.int .i64 2)])) w) := ⟨.inr ⟨n, HQ.out.err1, rfl⟩, Below.refl _ _⟩
    go_wp2_with fail
    exact bodyPost_ret (v := .tuple #[.string nul, .int .i64 (n : Int), .iface 42 (.int .i64 2)]) (by simp [results, Tryd.results36, go_sem]) rfl HR
  | false =>
    have HOK : Hid ((n < s.size → 0 < enL (s.toList.drop n)) → ∀ wx, Bw w wx → Calls Tryd.prog 24 #[.string (s.extract 1 (n - 1)), .string ⟨#[34, 34]⟩, .string ⟨#[34]⟩] wx fun e w' => ∃ z, e = .returned (.string z) ∧ RfO w s.toList (.returned (.tuple #[.string z, .int .i64 (n : Int), .nilIface])) w') := fun he wx hb => by
      obtain ⟨f, h1, h2, h3⟩ := HQ.out.fo (by rw [HLN.out]; exact he)
      obtain ⟨m, hm⟩ := HM.out
      have hm' : wx.cell? ⟨1, 0, none⟩ = some (.int .i64 m) := by rw [hb.cell (p := ⟨1, 0, none⟩) (World.block_lt_of_cell? w _ hm)]; exact hm
      have hsz : (s.extract 1 (n - 1)).size ≤ 4000 := by rw [ByteArray.size_extract]; omega
      have hc := count_le' (s.extract 1 (n - 1)) ⟨#[34, 34]⟩
      have h := Tryd.strings_ReplaceAll (s.extract 1 (n - 1)) ⟨#[34, 34]⟩ ⟨#[34]⟩ m wx (by omega) hm' (by decide) (by show _ + _ * 1 ≤ _; omega)
      refine h.mono fun e w' ⟨he1, hw⟩ => ⟨_, he1, .inl ⟨f, n, h1, ?_⟩, hb.tr hw⟩
      have e1 : Lib.replaceAll (s.extract 1 (n - 1)).data.toList (ByteArray.mk #[34, 34]).data.toList (ByteArray.mk #[34]).data.toList = f := by
        rw [data_list, mid_esq s f n h2 h3 h1.1]
        exact repl_back f
      rw [e1]
      rfl
    have HNP : Hid (2 ≤ n ∨ 0 = enL (s.toList.drop n)) := by
      by_cases h : 0 < enL (s.toList.drop n) ∨ ¬ n < s.size
      · obtain ⟨f, h1, h2, h3⟩ := HQ.out.fo (fun hl => by rw [HLN.out] at hl; rcases h with h | h <;> omega)
        exact .inl h3
      · exact .inr (by omega)
    by_cases hl : n < s.size
    · have hlz : (n : Int) < (s.size : Int) := by omega
      have hE := ending_any (s.extract n s.size) w
      rw [ext_drop] at hE
      rcases en_cases (s.toList.drop n) with ⟨h1, h2⟩ | ⟨h1, h2, -⟩ | ⟨h1, h2, -⟩ | ⟨h1, h2, -⟩
      · have HR : Hid (∀ w', Bw w w' → RfO w s.toList (.returned (.tuple #[.string nul, .int .i64 (n : Int), .iface 42 (.int .i64 2)])) w') := fun w' hb => ⟨.inr ⟨n, HQ.out.err2 (by rw [HLN.out]; exact hl) h2, rfl⟩, hb⟩
        rw [h1] at hE
        have HE : Hid (Calls Tryd.prog 27 #[.string (s.extract n s.size)] w fun e w' => e = .returned (.string nul) ∧ Bw w w') := hE
        clear hE h1 h2 HOK HNP
        go_wp2_with (go_at_call 27; with_reducible refine HE.out.mono ?_; rintro e w' ⟨rfl, hw⟩)
        exact bodyPost_ret (v := .tuple #[.string nul, .int .i64 (n : Int), .iface 42 (.int .i64 2)]) (by simp [results, Tryd.results36, go_sem]) rfl (HR.out _ (by assumption))
      · have HA : Hid (∀ wx, Bw w wx → Calls Tryd.prog 24 #[.string (s.extract 1 (n - 1)), .string ⟨#[34, 34]⟩, .string ⟨#[34]⟩] wx fun e w' => ∃ z, e = .returned (.string z) ∧ RfO w s.toList (.returned (.tuple #[.string z, .int .i64 (n : Int), .nilIface])) w') := HOK.out (fun _ => by rw [h2]; decide)
        have h2z : (2 : Int) ≤ (n : Int) := by rcases HNP.out with h | h <;> omega
        rw [h1] at hE
        have HE : Hid (Calls Tryd.prog 27 #[.string (s.extract n s.size)] w fun e w' => e = .returned (.string ⟨#[44]⟩) ∧ Bw w w') := hE
        clear hE h1 h2 HOK HNP
        go_wp2_with (first | (go_at_call 27; with_reducible refine HE.out.mono ?_; rintro e w' ⟨rfl, hw⟩) | (go_at_call 24; with_reducible refine (HA.out _ (by assumption)).mono ?_; rintro e w' ⟨z, rfl, HR⟩))
        exact bodyPost_ret (v := .tuple #[.string z, .int .i64 (n : Int), .nilIface]) (by simp [results, Tryd.results36, go_sem]) rfl HR
      · have HA : Hid (∀ wx, Bw w wx → Calls Tryd.prog 24 #[.string (s.extract 1 (n - 1)), .string ⟨#[34, 34]⟩, .string ⟨#[34]⟩] wx fun e w' => ∃ z, e = .returned (.string z) ∧ RfO w s.toList (.returned (.tuple #[.string z, .int .i64 (n : Int), .nilIface])) w') := HOK.out (fun _ => by rw [h2]; decide)
        have h2z : (2 : Int) ≤ (n : Int) := by rcases HNP.out with h | h <;> omega
        rw [h1] at hE
        have HE : Hid (Calls Tryd.prog 27 #[.string (s.extract n s.size)] w fun e w' => e = .returned (.string ⟨#[10]⟩) ∧ Bw w w') := hE
        clear hE h1 h2 HOK HNP
        go_wp2_with (first | (go_at_call 27; with_reducible refine HE.out.mono ?_; rintro e w' ⟨rfl, hw⟩) | (go_at_call 24; with_reducible refine (HA.out _ (by assumption)).mono ?_; rintro e w' ⟨z, rfl, HR⟩))
        exact bodyPost_ret (v := .tuple #[.string z, .int .i64 (n : Int), .nilIface]) (by simp [results, Tryd.results36, go_sem]) rfl HR
      · have HA : Hid (∀ wx, Bw w wx → Calls Tryd.prog 24 #[.string (s.extract 1 (n - 1)), .string ⟨#[34, 34]⟩, .string ⟨#[34]⟩] wx fun e w' => ∃ z, e = .returned (.string z) ∧ RfO w s.toList (.returned (.tuple #[.string z, .int .i64 (n : Int), .nilIface])) w') := HOK.out (fun _ => by rw [h2]; decide)
        have h2z : (2 : Int) ≤ (n : Int) := by rcases HNP.out with h | h <;> omega
        rw [h1] at hE
        have HE : Hid (Calls Tryd.prog 27 #[.string (s.extract n s.size)] w fun e w' => e = .returned (.string ⟨#[13, 10]⟩) ∧ Bw w w') := hE
        clear hE h1 h2 HOK HNP
        go_wp2_with (first | (go_at_call 27; with_reducible refine HE.out.mono ?_; rintro e w' ⟨rfl, hw⟩) | (go_at_call 24; with_reducible refine (HA.out _ (by assumption)).mono ?_; rintro e w' ⟨z, rfl, HR⟩))
        exact bodyPost_ret (v := .tuple #[.string z, .int .i64 (n : Int), .nilIface]) (by simp [results, Tryd.results36, go_sem]) rfl HR
    · have hlz : ¬ (n : Int) < (s.size : Int) := by omega
      have HA : Hid (∀ wx, Bw w wx → Calls Tryd.prog 24 #[.string (s.extract 1 (n - 1)), .string ⟨#[34, 34]⟩, .string ⟨#[34]⟩] wx fun e w' => ∃ z, e = .returned (.string z) ∧ RfO w s.toList (.returned (.tuple #[.string z, .int .i64 (n : Int), .nilIface])) w') := HOK.out (fun h => absurd h hl)
      have h2z : (2 : Int) ≤ (n : Int) := by
        have h := HQ.out.fo (fun h => by rw [HLN.out] at h; exact absurd h hl)
        obtain ⟨f, -, -, h3⟩ := h
        omega
      clear HOK HNP
      go_wp2_with (go_at_call 24; with_reducible refine (HA.out _ (Below.refl _ _)).mono ?_; rintro e w' ⟨z, rfl, HR⟩)
      exact bodyPost_ret (v := .tuple #[.string z, .int .i64 (n : Int), .nilIface]) (by simp [results, Tryd.results36, go_sem]) rfl HR
theorem RfO.form {w w' : World} {L : List UInt8} {e : Ending} (h : RfO w L e w') : ∃ a b c, e = .returned (.tuple #[a, b, c]) ∧ Hid (RfO w L (.returned (.tuple #[a, b, c])) w') := by
  rcases h with ⟨⟨f, n, h1, rfl⟩ | ⟨n, h1, rfl⟩, hb⟩
  · exact ⟨_, _, _, rfl, .inl ⟨f, n, h1, rfl⟩, hb⟩
  · exact ⟨_, _, _, rfl, .inr ⟨n, h1, rfl⟩, hb⟩
set_option maxRecDepth 1000000 in
set_option maxHeartbeats 4000000 in
theorem readField_any (s : ByteArray) (w : World) (hs : s.size ≤ 4000) (hm : ∃ m, w.cell? ⟨1, 0, none⟩ = some (.int .i64 m)) :
    Calls Tryd.prog 26 #[.string s] w fun e w' => RfO w s.toList e w' := by
  have hn : (s.size : Int) ≤ 4000 := by omega
  have hlen : s.toList.length = s.size := size_list s
  have HLN : Hid (s.toList.length = s.size) := hlen
  have HP : ∀ (wx : World), Calls Tryd.prog 35 #[.string s, .string ⟨#[34]⟩] wx fun e w' => e = .returned (.bool (decide (s.toList[0]? = some 34))) ∧ w' = wx := fun wx => by
    have := Tryd.strings_HasPrefix s ⟨#[34]⟩ wx
    have e : (ByteArray.mk #[34]).data.toList = [34] := rfl
    rw [e, pre34] at this
    exact this
  clear hlen
  by_cases h34 : s.toList[0]? = some 34
  · have HQ : Hid (Calls Tryd.prog 36 #[.string s] w fun e w' => RfO w s.toList e w') := readQuoted_any s w hs h34 hm
    have hd : decide (s.toList[0]? = some 34) = true := decide_eq_true h34
    rw [hd] at HP
    clear hm h34 hs hd
    go_enter Tryd.func26, Tryd.ntmps26
    go_wp2_with (first | (go_at_call 35; with_reducible refine (HP _).mono ?_; rintro e w' ⟨rfl, rfl⟩) | (go_at_call 36; with_reducible refine HQ.out.mono ?_; intro e w' hO; obtain ⟨a, b, c, rfl, HO⟩ := hO.form; clear hO))
    exact bodyPost_ret (v := .tuple #[a, b, c]) (by simp [results, Tryd.results26, go_sem]) rfl HO
  · have H0 : Hid (s.toList[0]? ≠ some 34) := h34
    have hd : decide (s.toList[0]? = some 34) = false := decide_eq_false h34
    rw [hd] at HP
    clear hm h34 hs hd
    go_enter Tryd.func26, Tryd.ntmps26
    go_upto_block 0 with (go_at_call 35; with_reducible refine (HP _).mono ?_; rintro e w' ⟨rfl, hw⟩; rw [hw]; clear hw)
    go_wp2_with fail
    go_loopw [15] (fun s15 wr => ∃ (i : Nat), s15 = .int .i64 (i : Int) ∧ i ≤ s.size ∧ Hid (PN s.toList i) ∧ Hid (Bw w wr)) (fun s15 _ => s.size - (intOf s15).toNat)
    case atStart => exact ⟨0, rfl, Nat.zero_le _, PN.zero _, Below.refl _ _⟩
    case round =>
      obtain ⟨i, rfl, hi, HF, HB⟩ := hrel
      by_cases hlt : i < s.size
      · have hlt' : (i : Int) < (s.size : Int) := by omega
        have hle' : (i : Int) ≤ (s.size : Int) := by omega
        have hi0 : (0 : Int) ≤ (i : Int) := by omega
        have HC : Hid (s.toList[i]? = some s[i]) := at_l hlt
        by_cases hb : s[i] = 34
        · have hbz : (((s[i].toNat : Nat) : Int) == 34) = true := by rw [hb]; rfl
          have HR : Hid (RfO w s.toList (.returned (.tuple #[.string nul, .int .i64 (i : Int), .iface 42 (.int .i64 2)])) wr) := ⟨.inr ⟨i, HF.out.err H0.out (by rw [HC.out, hb]), rfl⟩, HB.out⟩
          go_wp2_with fail
          exact bodyPost_ret (v := .tuple #[.string nul, .int .i64 (i : Int), .iface 42 (.int .i64 2)]) (by simp [results, Tryd.results26, go_sem]) rfl HR
        · have hbz : (((s[i].toNat : Nat) : Int) == 34) = false := by
            refine beq_eq_false_iff_ne.2 fun e => hb ?_
            have : s[i].toNat = 34 := by omega
            exact UInt8.toNat_inj.1 this
          have hE := ending_any (s.extract i s.size) wr
          rw [ext_drop] at hE
          rcases en_cases (s.toList.drop i) with ⟨h1, h2⟩ | h2
          · have HF2 : Hid (PN s.toList (i + 1)) := HF.out.succ HC.out hb h2
            rw [h1] at hE
            have HE : Hid (Calls Tryd.prog 27 #[.string (s.extract i s.size)] wr fun e w' => e = .returned (.string nul) ∧ Bw wr w') := hE
            clear hE h1 h2 hb HF
            go_wp2_with (go_at_call 27; with_reducible refine HE.out.mono ?_; rintro e w' ⟨rfl, hw⟩)
            have HB2 : Hid (Bw w ‹World›) := HB.out.tr (by assumption)
            exact ⟨⟨i + 1, rfl, hlt, HF2, HB2⟩, by simp [intOf]; omega⟩
          · have h3 : 0 < enL (s.toList.drop i) := by rcases h2 with h | h | h <;> rw [h.2.1] <;> decide
            have HR : Hid (∀ w', Bw w w' → RfO w s.toList (.returned (.tuple #[.string (s.extract 0 i), .int .i64 (i : Int), .nilIface])) w') := fun w' hb => ⟨.inl ⟨_, i, HF.out.fo (fun _ => h3), by rw [← ext_take, txt_list]⟩, hb⟩
            rcases h2 with ⟨h1, -⟩ | ⟨h1, -⟩ | ⟨h1, -⟩
            · rw [h1] at hE
              have HE : Hid (Calls Tryd.prog 27 #[.string (s.extract i s.size)] wr fun e w' => e = .returned (.string ⟨#[44]⟩) ∧ Bw wr w') := hE
              clear hE h1 h3 hb HF
              go_wp2_with (go_at_call 27; with_reducible refine HE.out.mono ?_; rintro e w' ⟨rfl, hw⟩)
              exact bodyPost_ret (v := .tuple #[.string (s.extract 0 i), .int .i64 (i : Int), .nilIface]) (by simp [results, Tryd.results26, go_sem]) rfl (HR.out _ (HB.out.tr (by assumption)))
            · rw [h1] at hE
              have HE : Hid (Calls Tryd.prog 27 #[.string (s.extract i s.size)] wr fun e w' => e = .returned (.string ⟨#[10]⟩) ∧ Bw wr w') := hE
              clear hE h1 h3 hb HF
              go_wp2_with (go_at_call 27; with_reducible refine HE.out.mono ?_; rintro e w' ⟨rfl, hw⟩)
              exact bodyPost_ret (v := .tuple #[.string (s.extract 0 i), .int .i64 (i : Int), .nilIface]) (by simp [results, Tryd.results26, go_sem]) rfl (HR.out _ (HB.out.tr (by assumption)))
            · rw [h1] at hE
              have HE : Hid (Calls Tryd.prog 27 #[.string (s.extract i s.size)] wr fun e w' => e = .returned (.string ⟨#[13, 10]⟩) ∧ Bw wr w') := hE
              clear hE h1 h3 hb HF
              go_wp2_with (go_at_call 27; with_reducible refine HE.out.mono ?_; rintro e w' ⟨rfl, hw⟩)
              exact bodyPost_ret (v := .tuple #[.string (s.extract 0 i), .int .i64 (i : Int), .nilIface]) (by simp [results, Tryd.results26, go_sem]) rfl (HR.out _ (HB.out.tr (by assumption)))
      · have hlt' : ¬ (i : Int) < (s.size : Int) := by omega
        obtain rfl : i = s.size := by omega
        have HR : Hid (RfO w s.toList (.returned (.tuple #[.string s, .int .i64 (s.size : Int), .nilIface])) wr) := by
          refine ⟨.inl ⟨_, s.size, HF.out.fo (fun h => by rw [HLN.out] at h; omega), ?_⟩, HB.out⟩
          rw [List.take_of_length_le (by rw [HLN.out]; exact Nat.le_refl _), txt_list]
        clear HF HB
        go_wp2_with fail
        exact bodyPost_ret (v := .tuple #[.string s, .int .i64 (s.size : Int), .nilIface]) (by simp [results, Tryd.results26, go_sem]) rfl HR
end Go.Proofs.YtldmjipkmplhbaaDoor.fw
