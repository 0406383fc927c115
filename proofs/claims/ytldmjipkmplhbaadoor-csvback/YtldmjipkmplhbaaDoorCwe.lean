
/- csv.readRow and csv.Read: walked. Conditions: as each theorem says. -/
import Derived.Test.YtldmjipkmplhbaaDoorCwd
import Derived.Test.YtldmjipkmplhbaaDoorCve
namespace Go.Proofs.YtldmjipkmplhbaaDoor.fw
open Go.RowKit Go.Sort
/-- What readRow answers. -/
def RrO (w : World) (L : List UInt8) (e : Ending) (w' : World) : Prop :=
  (∃ q n v, RO L q n ∧ q.length ≤ L.length + 1 ∧ e = .returned (.tuple #[v, .int .i64 (n : Nat), .nilIface]) ∧ TS w nls v nls [] q [] w') ∨ (∃ n, RE L n ∧ e = .returned (.tuple #[nls, .int .i64 (n : Nat), .iface 42 (.int .i64 2)]) ∧ Bw w w')
set_option maxRecDepth 1000000 in
set_option maxHeartbeats 4000000 in
theorem readRow_any (s : ByteArray) (w : World) (hs : s.size ≤ 4000) (h0 : 0 < s.size) (hm : ∃ m, w.cell? ⟨1, 0, none⟩ = some (.int .i64 m)) :
    Calls Tryd.prog 20 #[.string s] w fun e w' => RrO w s.toList e w' := by
  have HM : Hid (∃ m, w.cell? ⟨1, 0, none⟩ = some (.int .i64 m)) := hm
  have H0 : Hid (0 < s.size ∧ s.size ≤ 4000) := ⟨h0, hs⟩
  have hn : (s.size : Int) ≤ 4000 := by omega
  have hlen : s.toList.length = s.size := size_list s
  have HLN : Hid (s.toList.length = s.size) := hlen
  clear hm hlen h0 hs
  go_enter Tryd.func20, Tryd.ntmps20
  go_upto_block 0 with fail
  go_wp2_with fail
  go_loopw [5, 6] (fun s5 s6 wr => ∃ (q : List (List UInt8)) (a : Nat), s6 = .int .i64 (a : Int) ∧ a ≤ s.size ∧ Hid (RN s.toList q a ∧ q.length ≤ a ∧ TS w nls s5 nls [] q [] wr)) (fun _ s6 _ => s.size - (intOf s6).toNat)
  case atStart => exact ⟨[], 0, rfl, Nat.zero_le _, RN.zero _, Nat.le_refl _, TS.nil w⟩
  case round =>
    obtain ⟨q, a, rfl, ha, HQ⟩ := hrel
    have ha' : (a : Int) ≤ (s.size : Int) := by omega
    have ha0 : (0 : Int) ≤ (a : Int) := by omega
    have HF : Hid (Calls Tryd.prog 26 #[.string (s.extract a s.size)] wr fun e w' => RfO wr (s.toList.drop a) e w') := by
      have h := readField_any (s.extract a s.size) wr (by have := H0.out.2; rw [ByteArray.size_extract]; omega) (by
        obtain ⟨m, hm⟩ := HM.out
        exact ⟨m, by rw [HQ.out.2.2.below.cell (p := ⟨1, 0, none⟩) (World.block_lt_of_cell? w _ hm)]; exact hm⟩)
      rw [ext_drop] at h
      exact h
    go_upto_region 4 with (go_at_call 26; with_reducible refine HF.out.mono ?_; intro e w' hO; obtain ⟨v1, v2, v3, rfl, HO⟩ := hO.form; clear hO)
    rcases HO.out with ⟨⟨f, n, hf, e1⟩ | ⟨n, hf, e1⟩, hb⟩
    · have HFO : Hid (FO (s.toList.drop a) f n) := hf
      have HT1 : Hid (TS w nls u5 nls [] q [] w') := HQ.out.2.2.next hb
      simp only [Ending.returned.injEq, Value.tuple.injEq, Array.mk.injEq, List.cons.injEq, and_true] at e1
      obtain ⟨rfl, rfl, rfl⟩ := e1
      have HAN : Hid (a + n ≤ s.size) := by have h := HFO.out.1; rw [List.length_drop, HLN.out] at h; show _ ≤ _; omega
      have han : (a : Int) + (n : Int) ≤ (s.size : Int) := by have := HAN.out; omega
      have hn0 : (0 : Int) ≤ (n : Int) := by omega
      clear HO hf hb HF
      go_upto_region 7 with fail
      have ek : (a : Int) + (n : Int) = ((a + n : Nat) : Int) := by omega
      rw [ek]
      have HK : Hid (∃ k, k = a + n) := ⟨_, rfl⟩
      obtain ⟨k, hk⟩ := HK.out
      rw [← hk]
      have hk0 : (0 : Int) ≤ (k : Int) := by omega
      have hks : (k : Int) ≤ (s.size : Int) := by omega
      have HKK : Hid (k = a + n) := hk
      clear HK ek han hk
      have HQL : Hid (q.length < 1000000) := by have h1 := HQ.out.2.1; have h2 := HAN.out; show _ < _; omega
      obtain ⟨pq, cq, e5⟩ := own_form HT1.out.ro
      subst e5
      obtain ⟨g, c, w3, hr, hT⟩ := HT1.out.text HQL.out f
      have HRR : Hid ((Builtin.append_ #[37, 37] 37 #[.slice pq q.length cq, .slice (some ⟨w'.heap.size, 0, none⟩) 1 1]).run Tryd.prog (w'.alloc (.cells #[.string (txt f)] 9)) = .ok (.slice (some ⟨g, 0, none⟩) (q.length + 1) c) w3) := hr
      have HT2 : Hid (TS w nls (.slice (some ⟨g, 0, none⟩) (q.length + 1) c) nls [] (q ++ [f]) [] w3) := hT
      have HRN : Hid (RN s.toList q a ∧ q.length ≤ a) := ⟨HQ.out.1, HQ.out.2.1⟩
      clear hr hT HT1 HQ
      have hE := ending_any (s.extract k s.size) w3
      rw [ext_drop] at hE
      have HD : Hid (∀ j : Nat, (s.toList.drop k)[j]? = s.toList[k + j]?) := fun j => List.getElem?_drop
      rcases en_cases (s.toList.drop k) with ⟨h1, h2⟩ | ⟨h1, h2, h3⟩ | ⟨h1, h2, h3⟩ | ⟨h1, h2, h3, h4⟩
      · have HR : Hid (∀ w', Bw w3 w' → RrO w s.toList (.returned (.tuple #[.slice (some ⟨g, 0, none⟩) (q.length + 1) c, .int .i64 (k : Int), .nilIface])) w') := fun w' hb => by
          have hkl : a + n = s.toList.length := by
            by_cases hc : n < (s.toList.drop a).length
            · have := HFO.out.2.1 hc
              rw [List.drop_drop, ← HKK.out, h2] at this
              omega
            · rw [List.length_drop] at hc
              have := HAN.out
              rw [HLN.out] at hc ⊢
              omega
          refine .inl ⟨q ++ [f], k, _, by rw [HKK.out]; exact HRN.out.1.last HFO.out hkl (by rw [HLN.out]; exact H0.out.1), ?_, rfl, HT2.out.next hb⟩
          have := HRN.out.2
          rw [List.length_append, List.length_singleton]
          omega
        rw [h1] at hE
        have HE : Hid (Calls Tryd.prog 27 #[.string (s.extract k s.size)] w3 fun e w' => e = .returned (.string nul) ∧ Bw w3 w') := hE
        clear hE h1 h2 HD
        go_wp2_with (first | (at_builtin; refine wpList_append_eq rfl _ _ 37 37 rfl _ _ _ _ rfl rfl HRR.out ?_) | (go_at_call 27; with_reducible refine HE.out.mono ?_; rintro e w' ⟨rfl, hw⟩))
        exact bodyPost_ret (v := .tuple #[.slice (some ⟨g, 0, none⟩) (q.length + 1) c, .int .i64 (k : Int), .nilIface]) (by simp [results, Tryd.results20, go_sem]) rfl (HR.out _ (by assumption))
      · have HKZ : Hid (k + 1 ≤ s.size) := by
          have := HD.out 0
          rw [h3, Nat.add_zero] at this
          have := (List.getElem?_eq_some_iff.1 this.symm).1
          rw [HLN.out] at this
          exact this
        have HR : Hid (∀ w', Bw w3 w' → RN s.toList (q ++ [f]) (k + 1) ∧ (q ++ [f]).length ≤ k + 1 ∧ TS w nls (.slice (some ⟨g, 0, none⟩) (q.length + 1) c) nls [] (q ++ [f]) [] w') := fun w' hb => by
          refine ⟨?_, ?_, HT2.out.next hb⟩
          · rw [HKK.out]
            refine HRN.out.1.comma HFO.out ?_
            rw [← HKK.out]
            have := HD.out 0
            rw [h3, Nat.add_zero] at this
            exact this.symm
          · have := HRN.out.2
            have := HKK.out
            rw [List.length_append, List.length_singleton]
            omega
        rw [h1] at hE
        have HE : Hid (Calls Tryd.prog 27 #[.string (s.extract k s.size)] w3 fun e w' => e = .returned (.string ⟨#[44]⟩) ∧ Bw w3 w') := hE
        have hkz : (k : Int) + 1 ≤ (s.size : Int) := by have := HKZ.out; omega
        clear hE h1 h2 h3 HD
        go_wp2_with (first | (at_builtin; refine wpList_append_eq rfl _ _ 37 37 rfl _ _ _ _ rfl rfl HRR.out ?_) | (go_at_call 27; with_reducible refine HE.out.mono ?_; rintro e w' ⟨rfl, hw⟩))
        exact ⟨⟨q ++ [f], k + 1, rfl, HKZ.out, HR.out _ (by assumption)⟩, by have := HKK.out; have := HKZ.out; simp [intOf]; omega⟩
      · have HR : Hid (∀ w', Bw w3 w' → RrO w s.toList (.returned (.tuple #[.slice (some ⟨g, 0, none⟩) (q.length + 1) c, .int .i64 ((k : Int) + 1), .nilIface])) w') := fun w' hb => by
          have hx := HD.out 0
          rw [h3, Nat.add_zero] at hx
          skip
          refine .inl ⟨q ++ [f], k + 1, _, by rw [HKK.out]; exact HRN.out.1.line HFO.out (by rw [← HKK.out]; exact hx.symm), ?_, by rw [Int.natCast_add]; rfl, HT2.out.next hb⟩
          have := HRN.out.2
          have := HAN.out
          have := HLN.out
          rw [List.length_append, List.length_singleton]
          omega
        have hkz : (k : Int) + 1 ≤ (s.size : Int) := by
          have hx := HD.out 0
          rw [h3] at hx
          have := (List.getElem?_eq_some_iff.1 hx.symm).1
          rw [HLN.out] at this
          omega
        rw [h1] at hE
        have HE : Hid (Calls Tryd.prog 27 #[.string (s.extract k s.size)] w3 fun e w' => e = .returned (.string ⟨#[10]⟩) ∧ Bw w3 w') := hE
        clear hE h1 h2 h3 HD
        go_wp2_with (first | (at_builtin; refine wpList_append_eq rfl _ _ 37 37 rfl _ _ _ _ rfl rfl HRR.out ?_) | (go_at_call 27; with_reducible refine HE.out.mono ?_; rintro e w' ⟨rfl, hw⟩))
        exact bodyPost_ret (v := .tuple #[.slice (some ⟨g, 0, none⟩) (q.length + 1) c, .int .i64 ((k : Int) + 1), .nilIface]) (by simp [results, Tryd.results20, go_sem]) rfl (HR.out _ (by assumption))
      · have HR : Hid (∀ w', Bw w3 w' → RrO w s.toList (.returned (.tuple #[.slice (some ⟨g, 0, none⟩) (q.length + 1) c, .int .i64 ((k : Int) + 2), .nilIface])) w') := fun w' hb => by
          have hx := HD.out 0
          rw [h3, Nat.add_zero] at hx
          have hy := HD.out 1; rw [h4] at hy
          refine .inl ⟨q ++ [f], k + 2, _, by rw [HKK.out]; exact HRN.out.1.line2 HFO.out (by rw [← HKK.out]; exact hx.symm) (by rw [← HKK.out]; exact hy.symm), ?_, by rw [Int.natCast_add]; rfl, HT2.out.next hb⟩
          have := HRN.out.2
          have := HAN.out
          have := HLN.out
          rw [List.length_append, List.length_singleton]
          omega
        have hkz : (k : Int) + 2 ≤ (s.size : Int) := by
          have hx := HD.out 1
          rw [h4] at hx
          have := (List.getElem?_eq_some_iff.1 hx.symm).1
          rw [HLN.out] at this
          omega
        rw [h1] at hE
        have HE : Hid (Calls Tryd.prog 27 #[.string (s.extract k s.size)] w3 fun e w' => e = .returned (.string ⟨#[13, 10]⟩) ∧ Bw w3 w') := hE
        clear hE h1 h2 h3 HD
        go_wp2_with (first | (at_builtin; refine wpList_append_eq rfl _ _ 37 37 rfl _ _ _ _ rfl rfl HRR.out ?_) | (go_at_call 27; with_reducible refine HE.out.mono ?_; rintro e w' ⟨rfl, hw⟩))
        exact bodyPost_ret (v := .tuple #[.slice (some ⟨g, 0, none⟩) (q.length + 1) c, .int .i64 ((k : Int) + 2), .nilIface]) (by simp [results, Tryd.results20, go_sem]) rfl (HR.out _ (by assumption))
    · have HAN : Hid (a + n ≤ s.size) := by have h := hf.1; rw [List.length_drop, HLN.out] at h; show _ ≤ _; omega
      have han : (a : Int) + (n : Int) ≤ (s.size : Int) := by have := HAN.out; omega
      have hn0 : (0 : Int) ≤ (n : Int) := by omega
      have HR : Hid (RrO w s.toList (.returned (.tuple #[nls, .int .i64 ((a : Int) + (n : Int)), .iface 42 (.int .i64 2)])) w') :=
        .inr ⟨a + n, HQ.out.1.err hf, by rw [Int.natCast_add], HQ.out.2.2.below.tr hb⟩
      simp only [Ending.returned.injEq, Value.tuple.injEq, Array.mk.injEq, List.cons.injEq, and_true] at e1
      obtain ⟨rfl, rfl, rfl⟩ := e1
      clear HO hf hb HF HQ HAN
      go_wp2_with fail
      exact bodyPost_ret (v := .tuple #[nls, .int .i64 ((a : Int) + (n : Int)), .iface 42 (.int .i64 2)]) (by simp [results, Tryd.results20, go_sem]) rfl HR
theorem RrO.form {w w' : World} {L : List UInt8} {e : Ending} (h : RrO w L e w') : ∃ a b c, e = .returned (.tuple #[a, b, c]) ∧ Hid (RrO w L (.returned (.tuple #[a, b, c])) w') := by
  rcases h with ⟨q, n, v, h1, h2, rfl, h3⟩ | ⟨n, h1, rfl, hb⟩
  · exact ⟨_, _, _, rfl, .inl ⟨q, n, v, h1, h2, rfl, h3⟩⟩
  · exact ⟨_, _, _, rfl, .inr ⟨n, h1, rfl, hb⟩⟩
/-- What Read answers. -/
def ReO (w : World) (L : List UInt8) (e : Ending) (w' : World) : Prop :=
  (∃ (n : Nat) (er : Int), rdL L = ([], n, er) ∧ er ≠ 0 ∧ e = .returned (.tuple #[nls, .int .i64 (n : Int), errV er]) ∧ Bw w w') ∨ (∃ (out : List Rw) (v : Value), rdL L = (out.map (·.r), 0, 0) ∧ e = .returned (.tuple #[v, .int .i64 0, .nilIface]) ∧ TS w v nls nls out [] [] w')
set_option maxRecDepth 1000000 in
set_option maxHeartbeats 4000000 in
theorem read_any (s : ByteArray) (w : World) (hs : s.size ≤ 140737488355328) (hm : ∃ m, w.cell? ⟨1, 0, none⟩ = some (.int .i64 m)) :
    Calls Tryd.prog 10 #[.string s] w fun e w' => ReO w s.toList e w' := by
  have HM : Hid (∃ m, w.cell? ⟨1, 0, none⟩ = some (.int .i64 m)) := hm
  have hlen : s.toList.length = s.size := size_list s
  have HLN : Hid (s.toList.length = s.size) := hlen
  clear hm hlen
  by_cases h4 : 4000 < s.size
  · have h4z : (s.size : Int) > 4000 := by omega
    have HR : Hid (ReO w s.toList (.returned (.tuple #[nls, .int .i64 0, .iface 42 (.int .i64 4)])) w) := by
      refine .inl ⟨0, 4, ?_, by decide, rfl, Below.refl _ _⟩
      unfold rdL
      rw [if_pos (by rw [HLN.out]; exact h4)]
    clear h4
    go_enter Tryd.func10, Tryd.ntmps10
    go_wp2_with fail
    exact bodyPost_ret (v := .tuple #[nls, .int .i64 0, .iface 42 (.int .i64 4)]) (by simp [results, Tryd.results10, go_sem]) rfl HR
  · have H4 : Hid (s.size ≤ 4000) := Nat.le_of_not_lt h4
    have hn : ¬ (s.size : Int) > 4000 := by omega
    have hn2 : (s.size : Int) ≤ 4000 := by omega
    clear h4 hs
    go_enter Tryd.func10, Tryd.ntmps10
    go_upto_block 0 with fail
    go_cut [5] (fun s5 wx => ∃ (out : List Rw), Hid (rdL s.toList = (out.map (·.r), 0, 0) ∧ TS w s5 nls nls out [] [] wx))
    case first =>
      go_wp2_with fail
      go_loopw [5, 6] (fun s5 s6 wr => ∃ (out : List Rw) (a : Nat), s6 = .int .i64 (a : Int) ∧ a ≤ s.size ∧ Hid (TN s.toList (out.map (·.r)) a ∧ out.length ≤ a ∧ TS w s5 nls nls out [] [] wr)) (fun _ s6 _ => s.size - (intOf s6).toNat)
      case atStart => exact ⟨[], 0, rfl, Nat.zero_le _, TN.zero _, Nat.le_refl _, TS.nil w⟩
      case round =>
        obtain ⟨out, a, rfl, ha, HQ⟩ := hrel
        have ha0 : (0 : Int) ≤ (a : Int) := by omega
        have ha9 : (a : Int) ≤ (s.size : Int) := by omega
        by_cases hlt : a < s.size
        · have hlt' : (a : Int) < (s.size : Int) := by omega
          have HF : Hid (Calls Tryd.prog 20 #[.string (s.extract a s.size)] wr fun e w' => RrO wr (s.toList.drop a) e w') := by
            have h := readRow_any (s.extract a s.size) wr (by have := H4.out; rw [ByteArray.size_extract]; omega) (by rw [ByteArray.size_extract]; omega) (by
              obtain ⟨m, hm⟩ := HM.out
              exact ⟨m, by rw [HQ.out.2.2.below.cell (p := ⟨1, 0, none⟩) (World.block_lt_of_cell? w _ hm)]; exact hm⟩)
            rw [ext_drop] at h
            exact h
          go_upto_region 7 with (go_at_call 20; with_reducible refine HF.out.mono ?_; intro e w' hO; obtain ⟨v1, v2, v3, rfl, HO⟩ := hO.form; clear hO)
          rcases HO.out with ⟨q, n, v, hf, hql, e1, hT⟩ | ⟨n, hf, e1, hb⟩
          · simp only [Ending.returned.injEq, Value.tuple.injEq, Array.mk.injEq, List.cons.injEq, and_true] at e1
            obtain ⟨rfl, rfl, rfl⟩ := e1
            have HT1 : Hid (TS w u5 v1 nls out q [] w') := HQ.out.2.2.take hT.below hT.ro
            have HRO : Hid (RO (s.toList.drop a) q n) := hf
            have HAN : Hid (a + n ≤ s.size ∧ 0 < n) := by have h := HRO.out.2.1; rw [List.length_drop, HLN.out] at h; exact ⟨by omega, HRO.out.1⟩
            have han : (a : Int) + (n : Int) ≤ (s.size : Int) := by have := HAN.out.1; omega
            have hn0 : (0 : Int) ≤ (n : Int) := by omega
            clear HO hf hT HF hql
            obtain ⟨pq, cq, e5⟩ := own_form HT1.out.ro
            have HV : Hid (v1 = .slice pq q.length cq) := e5
            obtain ⟨po, co, e6⟩ := own_form HT1.out.oo
            have HOL : Hid (out.length < 1000000) := by have h1 := HQ.out.2.1; have h2 := H4.out; show _ < _; omega
            obtain ⟨g, c, w3, hr, hT⟩ := HT1.out.line HOL.out pq cq HV.out
            subst e6
            subst e5
            have HRR : Hid ((Builtin.append_ #[22, 22] 22 #[.slice po out.length co, .slice (some ⟨w'.heap.size, 0, none⟩) 1 1]).run Tryd.prog (w'.alloc (.cells #[.slice pq q.length cq] 37)) = .ok (.slice (some ⟨g, 0, none⟩) (out.length + 1) c) w3) := hr
            have HN : Hid (TN s.toList ((out ++ [(⟨pq, q, cq⟩ : Rw)]).map (·.r)) (a + n) ∧ (out ++ [(⟨pq, q, cq⟩ : Rw)]).length ≤ a + n ∧ TS w (.slice (some ⟨g, 0, none⟩) (out.length + 1) c) nls nls (out ++ [⟨pq, q, cq⟩]) [] [] w3) := by
              refine ⟨?_, ?_, hT⟩
              · rw [List.map_append]
                exact HQ.out.1.row HRO.out
              · have := HQ.out.2.1
                have := HAN.out.2
                rw [List.length_append, List.length_singleton]
                omega
            clear hr hT HT1 HQ HV HOL
            go_wp2_with (at_builtin; refine wpList_append_eq rfl _ _ 22 22 rfl _ _ _ _ rfl rfl HRR.out ?_)
            exact ⟨⟨out ++ [⟨pq, q, cq⟩], a + n, by rw [Int.natCast_add], HAN.out.1, HN⟩, by have := HAN.out; simp [intOf]; omega⟩
          · have HAN : Hid (a + n ≤ s.size) := by have h := hf.1; rw [List.length_drop, HLN.out] at h; show _ ≤ _; omega
            have han : (a : Int) + (n : Int) ≤ (s.size : Int) := by have := HAN.out; omega
            have hn0 : (0 : Int) ≤ (n : Int) := by omega
            have HR : Hid (ReO w s.toList (.returned (.tuple #[nls, .int .i64 ((a : Int) + (n : Int)), .iface 42 (.int .i64 2)])) w') :=
              .inl ⟨a + n, 2, HQ.out.1.err hf (by rw [HLN.out]; exact H4.out), by decide, by rw [Int.natCast_add]; rfl, HQ.out.2.2.below.tr hb⟩
            simp only [Ending.returned.injEq, Value.tuple.injEq, Array.mk.injEq, List.cons.injEq, and_true] at e1
            obtain ⟨rfl, rfl, rfl⟩ := e1
            clear HO hf hb HF HQ HAN
            go_wp2_with fail
            exact bodyPost_ret (v := .tuple #[nls, .int .i64 ((a : Int) + (n : Int)), .iface 42 (.int .i64 2)]) (by simp [results, Tryd.results10, go_sem]) rfl HR
        · have hlt' : ¬ (a : Int) < (s.size : Int) := by omega
          have HR : Hid (rdL s.toList = (out.map (·.r), 0, 0) ∧ TS w u5 nls nls out [] [] wr) := ⟨HQ.out.1.done (by rw [HLN.out]; omega) (by rw [HLN.out]; exact H4.out), HQ.out.2.2⟩
          clear HQ
          go_wp2_with fail
          go_meet
          case rel => exact ⟨out, HR⟩
    case rest =>
    obtain ⟨out, HQ⟩ := hcut
    apply_assumption
    have HR : Hid (ReO w s.toList (.returned (.tuple #[u5, .int .i64 0, .nilIface])) ‹World›) := .inr ⟨out, u5, HQ.out.1, rfl, HQ.out.2⟩
    clear HQ
    go_wp2_with fail
    exact bodyPost_ret (v := .tuple #[u5, .int .i64 0, .nilIface]) (by simp [results, Tryd.results10, go_sem]) rfl HR
end Go.Proofs.YtldmjipkmplhbaaDoor.fw
