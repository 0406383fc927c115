
/- csv.Write, whole, walked. Conditions: as the theorem says. -/
import Derived.Test.YtldmjipkmplhbaaDoorCwi
namespace Go.Proofs.YtldmjipkmplhbaaDoor.fw
open Go.RowKit Go.Sort
def errW (e : Int) : Value := if e = 0 then .nilIface else .iface 42 (.int .i64 e)
theorem isb_next {b B : Nat} {bs : List Value} {w w' : World} (h : Lib.IsBuilder 45 5 B b bs w) (hb : Bw w w') : Lib.IsBuilder 45 5 B b bs w' := by
  have one : ∀ p, Lib.BuilderAt 45 5 B b p bs w → Lib.BuilderAt 45 5 B b p bs w' := fun p ⟨h1, v, h2, h3, h4⟩ =>
    ⟨h1, v, by rw [hb.block b (Array.getElem?_eq_some_iff.1 h2).1]; exact h2, own_next h3 hb, h4⟩
  exact h.elim (fun x => .inl (one _ x)) (fun x => .inr (one _ x))
/-- What is written lies in the builder. -/
def BD (w : World) (D : List UInt8) (wr : World) : Prop := Lib.IsBuilder 45 5 w.heap.size w.heap.size (Lib.byteCells D) wr ∧ Bw w wr
theorem BD.nil (w : World) : BD w [] (w.alloc (.cells #[.pointer none, .slice none 0 0] 45)) :=
  ⟨.inl ⟨Nat.le_refl _, .slice none 0 0, heap_alloc_new w _, ⟨rfl, .inl ⟨rfl, rfl⟩⟩, by simp [Value.ownBlock]⟩, Bw.al _ _⟩
theorem BD.next {w : World} {D : List UInt8} {wr wx : World} (h : BD w D wr) (hb : Bw wr wx) : BD w D wx := ⟨isb_next h.1 hb, h.2.tr hb⟩
theorem BD.byte {w : World} {D : List UInt8} {wr : World} (h : BD w D wr) (hl : D.length ≤ 100000) (c : UInt8) :
    Calls Tryd.prog 14 #[.pointer (some ⟨w.heap.size, 0, none⟩), .int .u8 (c.toNat : Int)] wr fun e w' => e = .returned .nilIface ∧ BD w (D ++ [c]) w' := by
  refine (Tryd.Builder_WriteByte w.heap.size w.heap.size (Lib.byteCells D) (c.toNat : Int) wr h.1 (by rw [Lib.byteCells_length]; omega) h.2.size).mono ?_
  rintro e w' ⟨h1, h2, h3⟩
  exact ⟨h1, .inr (by rw [Lib.byteCells_append]; exact h2), h.2.trans h3⟩
theorem BD.str {w : World} {D : List UInt8} {wr : World} (h : BD w D wr) (hl : D.length ≤ 100000) (F : List UInt8) (hf : F.length ≤ 100000) :
    Calls Tryd.prog 16 #[.pointer (some ⟨w.heap.size, 0, none⟩), .string (txt F)] wr fun e w' => ∃ n, e = .returned (.tuple #[.int .i64 n, .nilIface]) ∧ BD w (D ++ F) w' := by
  have hsz : (txt F).size = F.length := rfl
  refine (Tryd.Builder_WriteString w.heap.size w.heap.size (Lib.byteCells D) (txt F) wr h.1 (by rw [Lib.byteCells_length]; omega) h.2.size).mono ?_
  rintro e w' ⟨h1, h2, h3⟩
  refine ⟨_, h1, .inr ?_, h.2.trans h3⟩
  have e1 : Lib.strCells (txt F) = Lib.byteCells F := rfl
  rw [Lib.byteCells_append, ← e1]
  exact h2
theorem BD.len {w : World} {D : List UInt8} {wr : World} (h : BD w D wr) :
    Calls Tryd.prog 15 #[.pointer (some ⟨w.heap.size, 0, none⟩)] wr fun e w' => e = .returned (.int .i64 (D.length : Int)) ∧ w' = wr := by
  have := Tryd.Builder_Len w.heap.size w.heap.size (Lib.byteCells D) wr h.1
  rw [Lib.byteCells_length] at this
  exact this
theorem BD.text {w : World} {D : List UInt8} {wr : World} (h : BD w D wr) :
    Calls Tryd.prog 18 #[.pointer (some ⟨w.heap.size, 0, none⟩)] wr fun e w' => e = .returned (.string (txt D)) ∧ Bw w w' := by
  refine (Tryd.Builder_String_any w.heap.size w.heap.size D wr h.1 h.2.size).mono ?_
  rintro e w' ⟨h1, h2⟩
  exact ⟨h1, h.2.trans h2⟩
/-- What Write answers. -/
def WrO (w : World) (t : List (List ByteArray)) (e : Ending) (w' : World) : Prop := e = .returned (.tuple #[.string (csvS (btt t)), errW (csvE (btt t))]) ∧ Bw w w'
theorem btt_any (t : List (List ByteArray)) : (btt t).any (fun r => r.isEmpty) = t.any (fun r => r.isEmpty) := by
  unfold btt bts
  rw [List.any_map]
  congr 1
  funext r
  cases r <;> rfl
set_option maxRecDepth 1000000 in
set_option maxHeartbeats 8000000 in
theorem write_any (t : List (List ByteArray)) (p : Option Addr) (c : Nat) (w : World) (h : RM w p t) (hl : t.length ≤ 70368744177664) (hl2 : ∀ r ∈ t, r.length ≤ 70368744177664 ∧ ∀ f ∈ r, f.size ≤ 140737488355328) (hm : ∃ m, w.cell? ⟨1, 0, none⟩ = some (.int .i64 m)) :
    Calls Tryd.prog 7 #[.slice p t.length c] w fun e w' => WrO w t e w' := by
  have H : Hid (RM w p t) := h
  have HL : Hid (∀ r ∈ t, r.length ≤ 70368744177664 ∧ ∀ f ∈ r, f.size ≤ 140737488355328) := hl2
  have HM : Hid (∃ m, w.cell? ⟨1, 0, none⟩ = some (.int .i64 m)) := hm
  have hl9 : (t.length : Int) ≤ 70368744177664 := by omega
  have HA := anyEmpty_any t p c w h hl
  clear h hl hl2 hm
  by_cases hE : t.any (fun r => r.isEmpty) = true
  · have HR : Hid (WrO w t (.returned (.tuple #[.string nul, .iface 42 (.int .i64 3)])) w) := by
      have e3 : csvE (btt t) = 3 := by unfold csvE; rw [if_pos (by rw [btt_any]; exact hE)]
      refine ⟨?_, Below.refl _ _⟩
      unfold csvS
      rw [e3]
      rfl
    rw [hE] at HA
    have HA2 : Hid (Calls Tryd.prog 12 #[.slice p t.length c, .func (.func 13) #[] #[]] w fun e w' => e = .returned (.bool true) ∧ w' = w) := HA
    clear HA hE
    go_enter Tryd.func7, Tryd.ntmps7
    go_wp2_with (go_at_call 12; with_reducible refine HA2.out.mono ?_; rintro e w' ⟨rfl, hw⟩; rw [hw]; clear hw)
    exact bodyPost_ret (v := .tuple #[.string nul, .iface 42 (.int .i64 3)]) (by simp [results, Tryd.results7, go_sem]) rfl HR
  · have hE' : t.any (fun r => r.isEmpty) = false := Bool.eq_false_iff.2 hE
    have HNE : Hid (∀ (j : Nat) (r : List ByteArray), t[j]? = some r → r ≠ []) := fun j r hj e => by
      subst e
      exact hE (List.any_eq_true.2 ⟨[], List.mem_of_getElem? hj, rfl⟩)
    have HCE : Hid (csvE (btt t) = if 4000 < (csvL (btt t)).length then 4 else 0) := csv_not HNE.out
    rw [hE'] at HA
    have HA2 : Hid (Calls Tryd.prog 12 #[.slice p t.length c, .func (.func 13) #[] #[]] w fun e w' => e = .returned (.bool false) ∧ w' = w) := HA
    have HFULL : Hid (∀ wx, Bw w wx → 4000 < (csvL (btt t)).length → WrO w t (.returned (.tuple #[.string nul, .iface 42 (.int .i64 4)])) wx) := fun wx hb h4 => by
      have e4 : csvE (btt t) = 4 := by rw [HCE.out, if_pos h4]
      refine ⟨?_, hb⟩
      unfold csvS
      rw [e4]
      rfl
    clear HA hE hE'
    go_enter Tryd.func7, Tryd.ntmps7
    go_upto_block 0 with (go_at_call 12; with_reducible refine HA2.out.mono ?_; rintro e w' ⟨rfl, hw⟩; rw [hw]; clear hw)
    have HB0 : Hid (BD w [] (w.alloc (.cells #[.pointer none, .slice none 0 0] 45))) := BD.nil w
    generalize (w.alloc (.cells #[.pointer none, .slice none 0 0] 45)) = w1 at *
    go_cut [] (fun wx => Hid (BD w (csvL (btt t)) wx ∧ (csvL (btt t)).length ≤ 8003))
    case first =>
      go_wp2_with fail
      go_loopw [14] (fun s14 wr => ∃ i : Nat, s14 = .int .i64 (i : Int) ∧ i ≤ t.length ∧ Hid (BD w (csvL ((btt t).take i)) wr ∧ (csvL ((btt t).take i)).length ≤ 8003)) (fun s14 _ => t.length - (intOf s14).toNat)
      case atStart => exact ⟨0, rfl, Nat.zero_le _, HB0, by simp [csvL]⟩
      case round =>
        obtain ⟨i, rfl, hi, HB⟩ := hrel
        by_cases hlt : i < t.length
        · have hlt' : (i : Int) < (t.length : Int) := by omega
          have hi0 : (0 : Int) ≤ (i : Int) := by omega
          have hx : t[i]? = some t[i] := List.getElem?_eq_getElem hlt
          obtain ⟨r, er⟩ : ∃ r, t[i] = r := ⟨_, rfl⟩
          rw [er] at hx
          have HX : Hid (t[i]? = some r) := hx
          have HRL : Hid (r.length ≤ 70368744177664 ∧ ∀ f ∈ r, f.size ≤ 140737488355328) := HL.out r (List.mem_of_getElem? hx)
          have hrl9 : (r.length : Int) ≤ 70368744177664 := by have := HRL.out.1; omega
          obtain ⟨g, o, q, k, rfl, c1, s1⟩ := (H.out.next HB.out.1.2).at hx
          have HS1 : Hid (∀ wx, Bw w wx → SM wx q r) := fun wx hb => by
            obtain ⟨g2, o2, q2, k2, e1, e2, e3⟩ := H.out.at hx
            injection e1 with e1
            injection e1 with e4 e5
            subst e4 e5
            have e6 : wr.cell? ⟨g, o + i, none⟩ = some (.slice q2 r.length k2) := by rw [HB.out.1.2.cell (p := ⟨g, _, none⟩) (World.block_lt_of_cell? w _ e2)]; exact e2
            have e7 := c1.symm.trans e6
            injection e7 with e7
            injection e7 with e8
            rw [e8]
            exact e3.next hb
          obtain ⟨PRE, ePRE⟩ : ∃ P, csvL ((btt t).take i) = P := ⟨_, rfl⟩
          obtain ⟨on, eon⟩ : ∃ b, decide ((bts r).length = 1) = b := ⟨_, rfl⟩
          have HON : Hid (decide (r.length = 1) = on) := by show _ = _; rw [← eon]; unfold bts; rw [List.length_map]
          have HPRE : Hid (∀ k, 4000 ≤ PRE.length + (fds on ((bts r).take k)).length → 4000 < (csvL (btt t)).length) := fun k hk => by
            have h1 := csv_part (btt_at HX.out).2 k
            rw [ePRE, eon] at h1
            omega
          have HNX : Hid (csvL ((btt t).take (i + 1)) = PRE ++ (fds on (bts r) ++ [10])) := by
            show _ = _
            rw [(btt_at HX.out).1, csv_snoc, ePRE, ← eon]
            rfl
          have HNER : Hid (0 < r.length) := List.length_pos_iff.2 (HNE.out i r HX.out)
          rw [ePRE] at HB
          clear ePRE eon hx er s1
          go_upto_block 2 with fail
          go_cut [] (fun wx => Hid (BD w (PRE ++ fds on (bts r)) wx ∧ (PRE ++ fds on (bts r)).length ≤ 8002))
          case first =>
            obtain ⟨w9, hw9⟩ : ∃ x, x = wr := ⟨_, rfl⟩
            subst hw9
            go_wp2_with fail
            go_loopw [20] (fun s20 wr => ∃ j : Nat, s20 = .int .i64 (j : Int) ∧ j ≤ r.length ∧ Hid (BD w (PRE ++ fds on ((bts r).take j)) wr ∧ (PRE ++ fds on ((bts r).take j)).length ≤ 8003 ∧ (0 < j → (PRE ++ fds on ((bts r).take j)).length ≤ 8002))) (fun s20 _ => r.length - (intOf s20).toNat)
            case atStart => exact ⟨0, rfl, Nat.zero_le _, by rw [List.take_zero]; simpa [fds] using HB.out.1, by rw [List.take_zero]; simpa [fds] using HB.out.2, fun h => absurd h (Nat.lt_irrefl 0)⟩
            case round =>
              obtain ⟨j, rfl, hj, HF⟩ := hrel
              by_cases hjl : j < r.length
              · have hjl' : (j : Int) < (r.length : Int) := by omega
                have hj0 : (0 : Int) ≤ (j : Int) := by omega
                have hx : r[j]? = some r[j] := List.getElem?_eq_getElem hjl
                obtain ⟨f, ef⟩ : ∃ f, r[j] = f := ⟨_, rfl⟩
                rw [ef] at hx
                have HFX : Hid (r[j]? = some f) := hx
                have HFS : Hid (f.size ≤ 140737488355328) := HRL.out.2 f (List.mem_of_getElem? hx)
                have hfs9 : (f.size : Int) ≤ 140737488355328 := by have := HFS.out; omega
                obtain ⟨gq, oq, rfl, x1⟩ := (HS1.out wr HF.out.1.2).at hx
                have HFD : Hid (fds on ((bts r).take (j + 1)) = fds on ((bts r).take j) ++ (sepL j ++ fld f.toList on)) := fds_at on hx
                obtain ⟨D, eD⟩ : ∃ D, PRE ++ fds on ((bts r).take j) = D := ⟨_, rfl⟩
                have HDN : Hid (PRE ++ fds on ((bts r).take (j + 1)) = D ++ sepL j ++ fld f.toList on) := by
                  show _ = _
                  rw [HFD.out, ← eD]
                  simp
                rw [eD] at HF
                clear eD ef hx
                go_upto_if 26 with fail
                clear x1
                go_cut [] (fun wx => Hid (BD w (D ++ sepL j) wx ∧ (D ++ sepL j).length ≤ 8004))
                case first =>
                  by_cases hjz : j = 0
                  · have hjz' : ¬ (j : Int) > 0 := by omega
                    have HE : Hid (BD w (D ++ sepL j) wr ∧ (D ++ sepL j).length ≤ 8004) := by
                      have e : sepL j = [] := by unfold sepL; rw [if_pos hjz]
                      rw [e, List.append_nil]
                      exact ⟨HF.out.1, by have := HF.out.2.1; omega⟩
                    clear HF hjz
                    go_wp2_with fail
                    go_meet
                    case rel => exact HE
                  · have hjz' : (j : Int) > 0 := by omega
                    have HW : Hid (Calls Tryd.prog 14 #[.pointer (some ⟨w.heap.size, 0, none⟩), .int .u8 44] wr fun e w' => e = .returned .nilIface ∧ BD w (D ++ sepL j) w') := by
                      have e : sepL j = [44] := by unfold sepL; rw [if_neg hjz]
                      rw [e]
                      exact HF.out.1.byte (by have := HF.out.2.1; omega) 44
                    have HLL : Hid ((D ++ sepL j).length ≤ 8004) := by
                      have e : sepL j = [44] := by unfold sepL; rw [if_neg hjz]
                      have := HF.out.2.1
                      show _ ≤ _
                      rw [e, List.length_append, List.length_singleton]
                      omega
                    clear HF hjz
                    go_wp2_with (go_at_call 14; with_reducible refine HW.out.mono ?_; rintro e w5 ⟨rfl, hB5⟩)
                    go_meet
                    case rel => exact ⟨hB5, HLL.out⟩
                case rest =>
                have HG := hcut
                clear hcut HF
                apply_assumption
                obtain ⟨E, eE⟩ : ∃ E, D ++ sepL j = E := ⟨_, rfl⟩
                rw [eE] at HG HDN
                clear eE
                have hE9 : (E.length : Int) ≤ 8004 := by have := HG.out.2; omega
                have HLN : Hid (Calls Tryd.prog 15 #[.pointer (some ⟨w.heap.size, 0, none⟩)] wc fun e w' => e = .returned (.int .i64 (E.length : Int)) ∧ w' = wc) := HG.out.1.len
                have hfl : Hid (f.size ≤ (fld f.toList on).length ∧ (fld f.toList on).length ≤ 2 * f.size + 2) := by
                  have := fld_le f.toList on
                  rw [size_list] at this
                  exact this
                by_cases hfull : 4000 ≤ E.length + f.size
                · have hfz : (E.length : Int) + (f.size : Int) ≥ 4000 := by omega
                  have HR : Hid (WrO w t (.returned (.tuple #[.string nul, .iface 42 (.int .i64 4)])) wc) := HFULL.out wc HG.out.1.2 (HPRE.out (j + 1) (by
                    have h1 := congrArg List.length HDN.out
                    rw [List.length_append, List.length_append] at h1
                    have := hfl.out.1
                    omega))
                  clear hfull HG HFULL
                  go_wp2_with (go_at_call 15; with_reducible refine HLN.out.mono ?_; rintro e w' ⟨rfl, hw⟩; rw [hw]; clear hw)
                  exact bodyPost_ret (v := .tuple #[.string nul, .iface 42 (.int .i64 4)]) (by simp [results, Tryd.results7, go_sem]) rfl HR
                · have hfz : ¬ (E.length : Int) + (f.size : Int) ≥ 4000 := by omega
                  have hon : ((((r.length : Nat) : Int)) == 1) = on := by
                    rw [← HON.out]
                    by_cases h1 : r.length = 1
                    · rw [h1]; rfl
                    · rw [decide_eq_false h1]; exact beq_eq_false_iff_ne.2 (by omega)
                  have HWT : Hid (Calls Tryd.prog 17 #[.string f, .bool on] wc fun e w' => e = .returned (.string (txt (fld f.toList on))) ∧ Bw wc w') := written_any f on wc (by omega) (by
                    obtain ⟨m, hm⟩ := HM.out
                    exact ⟨m, by rw [HG.out.1.2.cell (p := ⟨1, 0, none⟩) (World.block_lt_of_cell? w _ hm)]; exact hm⟩)
                  have HWS : Hid (∀ wx, Bw wc wx → Calls Tryd.prog 16 #[.pointer (some ⟨w.heap.size, 0, none⟩), .string (txt (fld f.toList on))] wx fun e w' => ∃ n, e = .returned (.tuple #[.int .i64 n, .nilIface]) ∧ BD w (E ++ fld f.toList on) w') := fun wx hb =>
                    (HG.out.1.next hb).str (by have := HG.out.2; omega) (fld f.toList on) (by have := hfl.out.2; omega)
                  have HLL : Hid ((E ++ fld f.toList on).length ≤ 8002) := by
                    have := hfl.out.2
                    show _ ≤ _
                    rw [List.length_append]
                    omega
                  have HDN2 : Hid (PRE ++ fds on ((bts r).take (j + 1)) = E ++ fld f.toList on) := HDN
                  clear hfull HG HFULL hfl HDN
                  go_wp2_with (first | (go_at_call 15; with_reducible refine HLN.out.mono ?_; rintro e w' ⟨rfl, hw⟩; rw [hw]; clear hw) | (go_at_call 17; with_reducible refine HWT.out.mono ?_; rintro e w6 ⟨rfl, hb6⟩) | (go_at_call 16; with_reducible refine (HWS.out _ (by assumption)).mono ?_; rintro e w7 ⟨n7, rfl, hB7⟩))
                  exact ⟨⟨j + 1, rfl, hjl, by rw [HDN2.out]; exact ⟨hB7, by have := HLL.out; omega, fun _ => HLL.out⟩⟩, by simp [intOf]; omega⟩
              · have hjl' : ¬ (j : Int) < (r.length : Int) := by omega
                have HR : Hid (BD w (PRE ++ fds on (bts r)) wr ∧ (PRE ++ fds on (bts r)).length ≤ 8002) := by
                  have e : (bts r).take j = bts r := List.take_of_length_le (by unfold bts; rw [List.length_map]; omega)
                  have h := HF.out
                  rw [e] at h
                  exact ⟨h.1, h.2.2 (by have := HNER.out; omega)⟩
                clear HF
                go_wp2_with fail
                go_meet
                case rel => exact HR
          case rest =>
          have HC := hcut
          clear hcut
          apply_assumption
          have HW : Hid (Calls Tryd.prog 14 #[.pointer (some ⟨w.heap.size, 0, none⟩), .int .u8 10] wc fun e w' => e = .returned .nilIface ∧ BD w (PRE ++ fds on (bts r) ++ [10]) w') := HC.out.1.byte (by have := HC.out.2; omega) 10
          go_wp2_with (go_at_call 14; with_reducible refine HW.out.mono ?_; rintro e w5 ⟨rfl, hB5⟩)
          exact ⟨⟨i + 1, rfl, hlt, by rw [HNX.out, ← List.append_assoc]; exact ⟨hB5, by have := HC.out.2; rw [List.length_append, List.length_singleton]; omega⟩⟩, by simp [intOf]; omega⟩
        · have hlt' : ¬ (i : Int) < (t.length : Int) := by omega
          have HR : Hid (BD w (csvL (btt t)) wr ∧ (csvL (btt t)).length ≤ 8003) := by
            have e : (btt t).take i = btt t := List.take_of_length_le (by unfold btt; rw [List.length_map]; omega)
            have := HB.out
            rw [e] at this
            exact this
          clear HB
          go_wp2_with fail
          go_meet
          case rel => exact HR
    case rest =>
    have HC := hcut
    clear hcut
    apply_assumption
    have hD : ((csvL (btt t)).length : Int) ≤ 8003 := by have := HC.out.2; omega
    have HLN : Hid (Calls Tryd.prog 15 #[.pointer (some ⟨w.heap.size, 0, none⟩)] wc fun e w' => e = .returned (.int .i64 ((csvL (btt t)).length : Int)) ∧ w' = wc) := HC.out.1.len
    by_cases h4 : 4000 < (csvL (btt t)).length
    · have h4z : ((csvL (btt t)).length : Int) > 4000 := by omega
      have HR := HFULL.out wc HC.out.1.2 h4
      have HR2 : Hid (WrO w t (.returned (.tuple #[.string nul, .iface 42 (.int .i64 4)])) wc) := HR
      clear HR h4 HC
      go_wp2_with (go_at_call 15; with_reducible refine HLN.out.mono ?_; rintro e w' ⟨rfl, hw⟩; rw [hw]; clear hw)
      exact bodyPost_ret (v := .tuple #[.string nul, .iface 42 (.int .i64 4)]) (by simp [results, Tryd.results7, go_sem]) rfl HR2
    · have h4z : ¬ ((csvL (btt t)).length : Int) > 4000 := by omega
      have HTX : Hid (Calls Tryd.prog 18 #[.pointer (some ⟨w.heap.size, 0, none⟩)] wc fun e w' => e = .returned (.string (txt (csvL (btt t)))) ∧ Bw w w') := HC.out.1.text
      have HR : Hid (∀ wx, Bw w wx → WrO w t (.returned (.tuple #[.string (txt (csvL (btt t))), .nilIface])) wx) := fun wx hb => by
        have e0 : csvE (btt t) = 0 := by rw [HCE.out, if_neg h4]
        refine ⟨?_, hb⟩
        unfold csvS
        rw [e0]
        rfl
      clear h4 HC HFULL
      go_wp2_with (first | (go_at_call 15; with_reducible refine HLN.out.mono ?_; rintro e w' ⟨rfl, hw⟩; rw [hw]; clear hw) | (go_at_call 18; with_reducible refine HTX.out.mono ?_; rintro e w7 ⟨rfl, hb7⟩))
      exact bodyPost_ret (v := .tuple #[.string (txt (csvL (btt t))), .nilIface]) (by simp [results, Tryd.results7, go_sem]) rfl (HR.out _ (by assumption))
end Go.Proofs.YtldmjipkmplhbaaDoor.fw
