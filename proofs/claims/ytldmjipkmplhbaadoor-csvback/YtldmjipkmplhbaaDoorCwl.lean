
/- The law CsvBack, walked. Conditions: as the theorem says. -/
import Derived.Test.YtldmjipkmplhbaaDoorCwg
import Derived.Test.YtldmjipkmplhbaaDoorCwj
namespace Go.Proofs.YtldmjipkmplhbaaDoor.fw
open Go.RowKit Go.Sort
/-- Write, told in two ways. -/
theorem write_two (t : List (List ByteArray)) (p : Option Addr) (c : Nat) (w : World) (h : RM w p t) (hl : t.length ≤ 70368744177664) (hl2 : ∀ r ∈ t, r.length ≤ 70368744177664 ∧ ∀ f ∈ r, f.size ≤ 140737488355328) (hm : ∃ m, w.cell? ⟨1, 0, none⟩ = some (.int .i64 m)) :
    (csvE (btt t) = 0 ∧ (csvL (btt t)).length ≤ 4000 ∧ Calls Tryd.prog 7 #[.slice p t.length c] w fun e w' => e = .returned (.tuple #[.string (txt (csvL (btt t))), .nilIface]) ∧ Bw w w') ∨
    (∃ k, Calls Tryd.prog 7 #[.slice p t.length c] w fun e w' => e = .returned (.tuple #[.string nul, .iface 42 (.int .i64 k)]) ∧ Bw w w') := by
  have hW := write_any t p c w h hl hl2 hm
  unfold WrO csvS errW at hW
  by_cases h0 : csvE (btt t) = 0
  · rw [if_pos h0, if_pos h0] at hW
    refine .inl ⟨h0, ?_, hW⟩
    unfold csvE at h0
    split at h0
    · exact absurd h0 (by decide)
    · split at h0
      · exact absurd h0 (by decide)
      · omega
  · rw [if_neg h0, if_neg h0] at hW
    exact .inr ⟨_, hW⟩
/-- Read of what was written. -/
theorem read_back (t : List (List ByteArray)) (w : World) (h0 : csvE (btt t) = 0) (hl : (csvL (btt t)).length ≤ 4000) (hm : ∃ m, w.cell? ⟨1, 0, none⟩ = some (.int .i64 m)) :
    Calls Tryd.prog 10 #[.string (txt (csvL (btt t)))] w fun e w' => ∃ p c, e = .returned (.tuple #[.slice p t.length c, .int .i64 0, .nilIface]) ∧ Hid (RM w' p t ∧ Bw w w') := by
  have hsz : (txt (csvL (btt t))).size = (csvL (btt t)).length := rfl
  have hR := read_any (txt (csvL (btt t))) w (by omega) hm
  have e1 : (txt (csvL (btt t))).toList = csvL (btt t) := by unfold txt; rw [ByteArray.toList_eq]
  rw [e1] at hR
  have hb := rd_csv h0
  refine hR.mono fun e w' h => ?_
  rcases h with ⟨n, er, h1, h2, -, -⟩ | ⟨out, v, h1, rfl, h2⟩
  · have := h1.symm.trans hb
    injection this with _ e2
    injection e2 with _ e3
    exact absurd e3 h2
  · obtain ⟨p, c, rfl, hM⟩ := h2.rm
    have e2 : out.map (·.r) = btt t := by
      have := h1.symm.trans hb
      injection this
    have e3 : (out.map fun x => x.r.map txt) = t := by
      have : (out.map fun x => x.r.map txt) = (out.map (·.r)).map fun q => q.map txt := by rw [List.map_map]; rfl
      rw [this, e2]
      unfold btt bts
      rw [List.map_map]
      have : ((fun q => List.map txt q) ∘ fun r => List.map ByteArray.toList r) = (id : List ByteArray → List ByteArray) := by
        funext r
        show (r.map ByteArray.toList).map txt = r
        rw [List.map_map]
        have : (txt ∘ ByteArray.toList) = id := funext fun s => txt_list s
        rw [this, List.map_id]
      rw [this, List.map_id]
    have e4 : out.length = t.length := by rw [← e3, List.length_map]
    rw [e3] at hM
    rw [e4]
    exact ⟨p, c, rfl, hM, h2.below⟩
/-- Fields that are read are no longer than the text. -/
theorem mc_fl (B : Nat) (L : List UInt8) : ∀ (st : Nat) (out : List (List (List UInt8))) (row : List (List UInt8)) (f : List UInt8) (i : Nat), (∀ q ∈ out, ∀ g ∈ q, g.length ≤ B) → (∀ g ∈ row, g.length ≤ B) → f.length + L.length ≤ B → ∀ q ∈ (mc st out row f i L).1, ∀ g ∈ q, g.length ≤ B := by
  induction L with
  | nil =>
    intro st out row f i ho hr hf
    rw [mc]
    split
    · intro q hq; cases hq
    · split
      · exact ho
      · intro q hq
        rcases List.mem_append.1 hq with h | h
        · exact ho q h
        · rw [List.mem_singleton] at h
          subst h
          intro g hg
          rcases List.mem_append.1 hg with h | h
          · exact hr g h
          · rw [List.mem_singleton] at h
            subst h
            simpa using hf
  | cons c L ih =>
    intro st out row f i ho hr hf
    rw [List.length_cons] at hf
    have add : ∀ x : UInt8, (f ++ [x]).length + L.length ≤ B := fun x => by rw [List.length_append, List.length_singleton]; omega
    have row' : ∀ g ∈ row ++ [f], g.length ≤ B := fun g hg => by
      rcases List.mem_append.1 hg with h | h
      · exact hr g h
      · rw [List.mem_singleton] at h
        subst h
        omega
    have none : ∀ q ∈ (([], i, 2) : RdR).1, ∀ g ∈ q, g.length ≤ B := fun q hq => by cases hq
    rw [mc]
    split
    · split
      · exact ih _ _ _ _ _ ho hr (by omega)
      · exact ih _ _ _ _ _ ho hr (add _)
    · split
      · refine ih _ _ _ _ _ (fun q hq => ?_) (fun g hg => by cases hg) (by simp; omega)
        rcases List.mem_append.1 hq with h | h
        · exact ho q h
        · rw [List.mem_singleton] at h
          subst h
          exact row'
      · split
        · exact ih _ _ _ _ _ ho hr (by omega)
        · split
          · exact ih _ _ _ _ _ ho row' (by simp; omega)
          · split
            · split
              · exact ih _ _ _ _ _ ho hr (by omega)
              · split
                · exact none
                · exact ih _ _ _ _ _ ho hr (add _)
            · split
              · exact none
              · exact ih _ _ _ _ _ ho hr (add _)
theorem rd_fl {L : List UInt8} {T : List (List (List UInt8))} {n : Nat} {er : Int} (h : rdL L = (T, n, er)) : ∀ q ∈ T, ∀ g ∈ q, g.length ≤ 4000 := by
  unfold rdL at h
  split at h
  · injection h with h1 _
    subst h1
    intro q hq; cases hq
  · have := mc_fl 4000 L 0 [] [] [] 0 (fun q hq => by cases hq) (fun g hg => by cases hg) (by simp; omega)
    rw [h] at this
    exact this
abbrev ab0 : List (List ByteArray) := [[⟨#[97, 44, 98]⟩, ⟨#[99]⟩]]
theorem ab_E : csvE (btt ab0) = 0 := by decide +kernel
theorem ab_L : csvL (btt ab0) = [34, 97, 44, 98, 34, 44, 99, 10] := by decide +kernel
/-- What Write answered of t. -/
def WT (t : List (List ByteArray)) (x : ByteArray) (v : Value) : Prop := (v = .nilIface ∧ csvE (btt t) = 0 ∧ (csvL (btt t)).length ≤ 4000 ∧ x = txt (csvL (btt t))) ∨ ∃ k, v = .iface 42 (.int .i64 k)
def WD (t : List (List ByteArray)) (x : ByteArray) (b : Bool) (w wx : World) : Prop := (b = true → csvE (btt t) = 0 ∧ (csvL (btt t)).length ≤ 4000 ∧ x = txt (csvL (btt t))) ∧ Bw w wx
/-- What Read answers of any text. -/
theorem read_two (s : ByteArray) (w : World) (hs : s.size ≤ 140737488355328) (hm : ∃ m, w.cell? ⟨1, 0, none⟩ = some (.int .i64 m)) :
    (∃ n k : Int, Calls Tryd.prog 10 #[.string s] w fun e w' => e = .returned (.tuple #[nls, .int .i64 n, .iface 42 (.int .i64 k)]) ∧ Bw w w') ∨
    (∃ u : List (List ByteArray), u.length ≤ 4001 ∧ (∀ r ∈ u, r.length ≤ 4001 ∧ ∀ f ∈ r, f.size ≤ 4000) ∧ Calls Tryd.prog 10 #[.string s] w fun e w' => ∃ p c, e = .returned (.tuple #[.slice p u.length c, .int .i64 0, .nilIface]) ∧ Hid (RM w' p u ∧ Bw w w')) := by
  have hR := read_any s w hs hm
  obtain ⟨T, n, er, hT⟩ : ∃ T n er, rdL s.toList = (T, n, er) := ⟨_, _, _, rfl⟩
  by_cases h0 : er = 0
  · subst h0
    obtain ⟨l1, l2⟩ := rd_len hT
    have l3 := rd_fl hT
    refine .inr ⟨T.map fun q => q.map txt, by rw [List.length_map]; exact l1, fun r hr => ?_, hR.mono fun e w' h => ?_⟩
    · obtain ⟨q, hq, rfl⟩ := List.mem_map.1 hr
      refine ⟨by rw [List.length_map]; exact l2 q hq, fun f hf => ?_⟩
      obtain ⟨g, hg, rfl⟩ := List.mem_map.1 hf
      exact l3 q hq g hg
    · rcases h with ⟨n', er', h1, h2, -, -⟩ | ⟨out, v, h1, rfl, h2⟩
      · have := hT.symm.trans h1
        injection this with _ e1
        injection e1 with _ e2
        exact absurd e2.symm h2
      · obtain ⟨p, c, rfl, hM⟩ := h2.rm
        have e1 : T = out.map (·.r) := by
          have := hT.symm.trans h1
          injection this
        have e2 : (out.map fun x => x.r.map txt) = T.map fun q => q.map txt := by rw [e1, List.map_map]; rfl
        have e3 : (T.map fun q => q.map txt).length = out.length := by rw [← e2, List.length_map]
        rw [e2] at hM
        rw [← e3]
        exact ⟨p, c, rfl, hM, h2.below⟩
  · refine .inl ⟨n, er, hR.mono fun e w' h => ?_⟩
    rcases h with ⟨n', er', h1, h2, rfl, h3⟩ | ⟨out, v, h1, -, -⟩
    · have := hT.symm.trans h1
      injection this with _ e1
      injection e1 with e2 e3
      subst e2 e3
      refine ⟨?_, h3⟩
      unfold errV
      rw [if_neg h2]
    · have := hT.symm.trans h1
      injection this with _ e1
      injection e1 with _ e2
      exact absurd e2 h0
set_option maxRecDepth 1000000 in
set_option maxHeartbeats 8000000 in
theorem csvBack_any (t : List (List ByteArray)) (p : Option Addr) (c : Nat) (s : ByteArray) (w : World) (h : RM w p t) (hl : t.length ≤ 70368744177664) (hl2 : ∀ r ∈ t, r.length ≤ 70368744177664 ∧ ∀ f ∈ r, f.size ≤ 140737488355328) (hs : s.size ≤ 140737488355328) (hm : ∃ m, w.cell? ⟨1, 0, none⟩ = some (.int .i64 m)) :
    Calls Tryd.prog 5 #[.slice p t.length c, .string s] w fun e w' => e = .returned (.bool true) ∧ Bw w w' := by
  have HMX : Hid (∀ wx, Bw w wx → ∃ m, wx.cell? ⟨1, 0, none⟩ = some (.int .i64 m)) := fun wx hb => by
    obtain ⟨m, hm⟩ := hm
    exact ⟨m, by rw [hb.cell (p := ⟨1, 0, none⟩) (World.block_lt_of_cell? w _ hm)]; exact hm⟩
  have H : Hid (RM w p t) := h
  have HL : Hid (t.length ≤ 70368744177664 ∧ (∀ r ∈ t, r.length ≤ 70368744177664 ∧ ∀ f ∈ r, f.size ≤ 140737488355328) ∧ s.size ≤ 140737488355328) := ⟨hl, hl2, hs⟩
  have hl9 : (t.length : Int) ≤ 70368744177664 := by omega
  clear h hl hl2 hs hm
  obtain ⟨WA, hWA⟩ : ∃ WA, (w.alloc (.cells #[.string ⟨#[97, 44, 98]⟩, .string ⟨#[99]⟩] 9)).alloc (.cells #[.slice (some ⟨w.heap.size, 0, none⟩) 2 2] 37) = WA := ⟨_, rfl⟩
  have HBA : Hid (Bw w WA) := by rw [← hWA]; exact (Bw.al w _).tr (Bw.al _ _)
  have hsz0 : (w.alloc (.cells #[.string ⟨#[97, 44, 98]⟩, .string ⟨#[99]⟩] 9)).heap.size = w.heap.size + 1 := by simp
  have HRA : Hid (RM WA (some ⟨w.heap.size + 1, 0, none⟩) ab0) := by
    have b1 : WA.heap[w.heap.size + 1]? = some (.cells #[.slice (some ⟨w.heap.size, 0, none⟩) 2 2] 37) := by
      rw [← hWA, ← hsz0]
      exact heap_alloc_new _ _
    have b0 : WA.heap[w.heap.size]? = some (.cells #[.string ⟨#[97, 44, 98]⟩, .string ⟨#[99]⟩] 9) := by
      rw [← hWA, heap_alloc_old _ _ (by rw [hsz0]; omega)]
      exact heap_alloc_new _ _
    refine .inr ⟨w.heap.size + 1, 0, rfl, (Array.getElem?_eq_some_iff.1 b1).1, fun i r hr => ?_⟩
    have hi : i < 1 := (List.getElem?_eq_some_iff.1 hr).1
    obtain rfl : i = 0 := by omega
    obtain rfl : [⟨#[97, 44, 98]⟩, ⟨#[99]⟩] = r := Option.some.inj hr
    refine ⟨some ⟨w.heap.size, 0, none⟩, 2, by simp only [World.cell?, b1]; rfl, .inr ⟨w.heap.size, 0, rfl, (Array.getElem?_eq_some_iff.1 b0).1, fun j x hx => ?_⟩⟩
    have hj : j < 2 := (List.getElem?_eq_some_iff.1 hx).1
    have e : j = 0 ∨ j = 1 := by omega
    rcases e with rfl | rfl
    · obtain rfl := Option.some.inj hx
      simp only [World.cell?, b0]; rfl
    · obtain rfl := Option.some.inj hx
      simp only [World.cell?, b0]; rfl
  have HFA : Hid (Calls Tryd.prog 7 #[.slice (some ⟨w.heap.size + 1, 0, none⟩) 1 1] WA fun e w' => e = .returned (.tuple #[.string ⟨#[34, 97, 44, 98, 34, 44, 99, 10]⟩, .nilIface]) ∧ Bw WA w') := by
    have h := write_any ab0 (some ⟨w.heap.size + 1, 0, none⟩) 1 WA HRA.out (by decide) (fun r hr => by
      obtain rfl := List.mem_singleton.1 hr
      refine ⟨by decide, fun f hf => ?_⟩
      rcases List.mem_cons.1 hf with rfl | hf
      · decide
      · obtain rfl := List.mem_singleton.1 hf
        decide) (HMX.out WA HBA.out)
    unfold WrO csvS errW at h
    rw [ab_E, ab_L] at h
    exact h
  go_enter Tryd.func5, Tryd.ntmps5
  go_upto_region 4 with (go_at_call 7; with_reducible refine HFA.out.mono ?_; rintro e w1 ⟨rfl, hb1⟩)
  have HB1 : Hid (Bw w w1) := HBA.out.tr hb1
  clear hb1 HFA HRA hWA hsz0 HBA
  have HW : Hid (Calls Tryd.prog 7 #[.slice p t.length c] w1 fun e w' => ∃ x v, e = .returned (.tuple #[.string x, v]) ∧ Hid (WT t x v ∧ Bw w1 w')) := by
    rcases write_two t p c w1 (H.out.next HB1.out) HL.out.1 HL.out.2.1 (HMX.out w1 HB1.out) with ⟨h0, h4, hW⟩ | ⟨k, hW⟩
    · exact hW.mono fun e w' h => ⟨_, _, h.1, .inl ⟨rfl, h0, h4, rfl⟩, h.2⟩
    · exact hW.mono fun e w' h => ⟨_, _, h.1, .inr ⟨k, rfl⟩, h.2⟩
  go_upto_region 5 with (go_at_call 7; with_reducible refine HW.out.mono ?_; rintro e w2 ⟨x, v, rfl, HT⟩)
  have HB2 : Hid (Bw w w2) := HB1.out.tr HT.out.2
  go_cut [38] (fun s38 wx => ∃ b, s38 = .bool b ∧ Hid (WD t x b w wx))
  case first =>
    rcases HT.out.1 with ⟨rfl, h0, h4, hx⟩ | ⟨k, rfl⟩
    · have HR : Hid (WD t x true w w2) := ⟨fun _ => ⟨h0, h4, hx⟩, HB2.out⟩
      clear h0 h4 hx
      go_wp2_with fail
      go_meet
      case rel => exact ⟨true, rfl, HR⟩
    · have HR : Hid (WD t x false w w2) := ⟨(fun h => by cases h), HB2.out⟩
      go_wp2_with fail
      go_meet
      case rel => exact ⟨false, rfl, HR⟩
  case rest =>
  obtain ⟨b, rfl, HC⟩ := hcut
  apply_assumption
  clear HT HB2 HW
  go_upto_if 38 with fail
  go_cut [] (fun wx => Hid (Bw w wx))
  case first =>
    cases b with
    | true =>
      obtain ⟨h0, h4, hx⟩ := HC.out.1 rfl
      have HRB : Hid (∀ wx, Bw w wx → Calls Tryd.prog 10 #[.string x] wx fun e w' => ∃ p c, e = .returned (.tuple #[.slice p t.length c, .int .i64 0, .nilIface]) ∧ Hid (RM w' p t ∧ Bw wx w')) := fun wx hb => by rw [hx]; exact read_back t wx h0 h4 (HMX.out wx hb)
      clear h0 h4 hx
      have HBc : Hid (Bw w wc) := HC.out.2
      clear HC
      go_upto_region 7 with (go_at_call 10; with_reducible refine (HRB.out _ HBc.out).mono ?_; rintro e w3 ⟨p3, c3, rfl, h3⟩)
      have HSM : Hid (Calls Tryd.prog 11 #[.slice p3 t.length c3, .slice p t.length c] w3 fun e w' => e = .returned (.bool true) ∧ Bw w3 w') := rrows_any t p3 p c3 c w3 h3.out.1 (H.out.next (HBc.out.tr h3.out.2)) HL.out.1 (fun r hr => (HL.out.2.1 r hr).1)
      have HB3 : Hid (Bw w w3) := HBc.out.tr h3.out.2
      clear h3 HRB HBc
      go_wp2_with (go_at_call 11; with_reducible refine HSM.out.mono ?_; rintro e w4 ⟨rfl, hb4⟩)
      go_meet
      case rel => exact HB3.out.tr (by assumption)
    | false =>
      have HBc : Hid (Bw w wc) := HC.out.2
      clear HC
      go_wp2_with fail
      go_meet
      case rel => exact HBc
  case rest =>
  have HB5 := hcut
  clear hcut HC HB1
  apply_assumption
  rcases read_two s ‹World› HL.out.2.2 (HMX.out _ HB5.out) with ⟨n, k, hR⟩ | ⟨u, u1, u2, hR⟩
  · have HR : Hid (Calls Tryd.prog 10 #[.string s] _ fun e w' => e = .returned (.tuple #[nls, .int .i64 n, .iface 42 (.int .i64 k)]) ∧ Bw _ w') := hR
    clear hR
    go_wp2_with (go_at_call 10; with_reducible refine HR.out.mono ?_; rintro e w6 ⟨rfl, hb6⟩)
    go_ret
    exact ⟨rfl, HB5.out.tr (by assumption)⟩
  · have HR : Hid (Calls Tryd.prog 10 #[.string s] _ fun e w' => ∃ p c, e = .returned (.tuple #[.slice p u.length c, .int .i64 0, .nilIface]) ∧ Hid (RM w' p u ∧ Bw _ w')) := hR
    have HU : Hid (u.length ≤ 70368744177664 ∧ (∀ r ∈ u, r.length ≤ 70368744177664 ∧ ∀ f ∈ r, f.size ≤ 140737488355328)) := ⟨by omega, fun r hr => ⟨by have := (u2 r hr).1; omega, fun f hf => by have := (u2 r hr).2 f hf; omega⟩⟩
    have hu9 : (u.length : Int) ≤ 4001 := by omega
    clear hR u1 u2
    go_upto_region 13 with (go_at_call 10; with_reducible refine HR.out.mono ?_; rintro e w6 ⟨p6, c6, rfl, h6⟩)
    have HB6 : Hid (Bw w w6) := HB5.out.tr h6.out.2
    have HR6 : Hid (RM w6 p6 u) := h6.out.1
    clear h6 HR HB5
    rcases write_two u p6 c6 w6 HR6.out HU.out.1 HU.out.2 (HMX.out w6 HB6.out) with ⟨h0, h4, hW⟩ | ⟨k, hW⟩
    · have HW : Hid (Calls Tryd.prog 7 #[.slice p6 u.length c6] w6 fun e w' => e = .returned (.tuple #[.string (txt (csvL (btt u))), .nilIface]) ∧ Bw w6 w') := hW
      have HRB : Hid (∀ wx, Bw w wx → Calls Tryd.prog 10 #[.string (txt (csvL (btt u)))] wx fun e w' => ∃ p c, e = .returned (.tuple #[.slice p u.length c, .int .i64 0, .nilIface]) ∧ Hid (RM w' p u ∧ Bw wx w')) := fun wx hb => read_back u wx h0 h4 (HMX.out wx hb)
      clear hW h0 h4
      generalize txt (csvL (btt u)) = X at HW HRB
      go_upto_region 17 with (first | (go_at_call 7; with_reducible refine HW.out.mono ?_; rintro e w7 ⟨rfl, hb7⟩) | (go_at_call 10; with_reducible refine (HRB.out _ (HB6.out.tr (by assumption))).mono ?_; rintro e w8 ⟨p8, c8, rfl, h8⟩))
      have HSM : Hid (Calls Tryd.prog 11 #[.slice p6 u.length c6, .slice p8 u.length c8] w8 fun e w' => e = .returned (.bool true) ∧ Bw w8 w') := rrows_any u p6 p8 c6 c8 w8 (HR6.out.next (Bw.tr hb7 h8.out.2)) h8.out.1 HU.out.1 (fun r hr => (HU.out.2 r hr).1)
      have HB8 : Hid (Bw w w8) := (HB6.out.tr hb7).tr h8.out.2
      clear h8 HRB HW hb7
      go_wp2_with (go_at_call 11; with_reducible refine HSM.out.mono ?_; rintro e w9 ⟨rfl, hb9⟩)
      go_ret
      exact ⟨rfl, HB8.out.tr (by assumption)⟩
    · have HW : Hid (Calls Tryd.prog 7 #[.slice p6 u.length c6] w6 fun e w' => e = .returned (.tuple #[.string nul, .iface 42 (.int .i64 k)]) ∧ Bw w6 w') := hW
      clear hW
      go_wp2_with (go_at_call 7; with_reducible refine HW.out.mono ?_; rintro e w7 ⟨rfl, hb7⟩)
      go_ret
      exact ⟨rfl, HB6.out.tr (by assumption)⟩
end Go.Proofs.YtldmjipkmplhbaaDoor.fw
