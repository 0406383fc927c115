
/- The document's Csv: rows as text, walked. Conditions: as the theorem says. -/
import Derived.Test.YtldmjipkmplhbaaDoorCvb
namespace Go.Proofs.YtldmjipkmplhbaaDoor.fw
open Go.RowKit Go.Sort
/-- The bytes of rows of texts. -/
def bts (r : List ByteArray) : List (List UInt8) := r.map ByteArray.toList
def btt (t : List (List ByteArray)) : List (List (List UInt8)) := t.map bts
theorem bts_at {r : List ByteArray} {k : Nat} {f : ByteArray} (h : r[k]? = some f) : (bts r).take (k + 1) = (bts r).take k ++ [f.toList] := by
  unfold bts
  rw [List.take_add_one, List.getElem?_map, h]
  rfl
theorem btt_at {t : List (List ByteArray)} {i : Nat} {r : List ByteArray} (h : t[i]? = some r) : (btt t).take (i + 1) = (btt t).take i ++ [bts r] ∧ (btt t)[i]? = some (bts r) := by
  unfold btt
  rw [List.take_add_one, List.getElem?_map, h]
  exact ⟨rfl, rfl⟩
/-- The text that is written. -/
def csvS (T : List (List (List UInt8))) : ByteArray := if csvE T = 0 then txt (csvL T) else nul
theorem csv_three {t : List (List ByteArray)} {i : Nat} (h : t[i]? = some []) : csvE (btt t) = 3 := by
  unfold csvE
  rw [if_pos]
  rw [List.any_eq_true]
  exact ⟨[], List.mem_of_getElem? (i := i) (by unfold btt; rw [List.getElem?_map, h]; rfl), rfl⟩
theorem csv_not {t : List (List ByteArray)} (h : ∀ (j : Nat) (r : List ByteArray), t[j]? = some r → r ≠ []) : csvE (btt t) = if 4000 < (csvL (btt t)).length then 4 else 0 := by
  unfold csvE
  rw [if_neg]
  intro hc
  rw [List.any_eq_true] at hc
  obtain ⟨x, hx, he⟩ := hc
  unfold btt at hx
  rw [List.mem_map] at hx
  obtain ⟨r, hr, rfl⟩ := hx
  obtain ⟨j, hj⟩ := List.getElem?_of_mem hr
  refine h j r hj ?_
  unfold bts at he
  simpa using he
theorem BV.whole {w : World} {v : Value} {xs : List UInt8} {wx : World} (h : BV w v xs wx) : (convert 39 9 v).run Tryd.prog wx = .ok (.string (txt xs)) wx := by
  obtain ⟨p, c, rfl, ⟨h0, rfl, rfl⟩ | ⟨g, rfl, hc⟩⟩ := h.form
  · have e : xs = [] := List.eq_nil_of_length_eq_zero h0
    subst e
    exact nil_text wx
  · have := h.text xs.length c (Nat.le_refl _)
    rw [List.take_length] at this
    exact this
theorem Hid.mk' {P : Prop} (h : P) : Hid P := h
def mrk (q : Bool) : List UInt8 := if q = true then [34] else []
def sepL (j : Nat) : List UInt8 := if j = 0 then [] else [44]
theorem fld_is (f : List UInt8) (on : Bool) : fld f on = mrk (qfd f on) ++ esq f ++ mrk (qfd f on) := by
  unfold fld mrk
  by_cases h : qfd f on = true
  · rw [if_pos h, if_pos h]
  · rw [if_neg h, if_neg h]; simp
theorem fds_at {r : List ByteArray} {j : Nat} {f : ByteArray} (on : Bool) (h : r[j]? = some f) : fds on ((bts r).take (j + 1)) = fds on ((bts r).take j) ++ (sepL j ++ fld f.toList on) := by
  rw [bts_at h, fds_snoc]
  have e : ((bts r).take j).length = j := by
    rw [List.length_take]
    unfold bts
    rw [List.length_map]
    have := (List.getElem?_eq_some_iff.1 h).1
    omega
  rw [e]
  rfl
theorem esq_next {f : List UInt8} {m : Nat} {c : UInt8} (h : f[m]? = some c) : esq (f.take (m + 1)) = esq (f.take m) ++ (if c = 34 then [34, 34] else [c]) := by
  rw [List.take_add_one, h, ← esq_snoc]
  rfl
theorem any_next {f : List UInt8} {m : Nat} {c : UInt8} (h : f[m]? = some c) : (f.take (m + 1)).any spc = ((f.take m).any spc || spc c) := by
  rw [List.take_add_one, h]
  simp [List.any_append]
theorem at_l4 {s : ByteArray} {i : Nat} (h : i < s.size) : s.toList[i]? = some s[i] := by
  rw [ByteArray.toList_eq, Array.getElem?_toList]
  exact Array.getElem?_eq_getElem h
/-- What Csv answers. -/
def CsO (w : World) (t : List (List ByteArray)) (e : Ending) (w' : World) : Prop := e = .returned (.tuple #[.string (csvS (btt t)), .int .i64 (csvE (btt t))]) ∧ Bw w w'
set_option maxRecDepth 1000000 in
set_option maxHeartbeats 8000000 in
theorem rcsv_any (t : List (List ByteArray)) (p : Option Addr) (c : Nat) (w : World) (h : RM w p t) (hl : t.length ≤ 70368744177664) (hl2 : ∀ r ∈ t, r.length ≤ 70368744177664 ∧ ∀ f ∈ r, f.size ≤ 140737488355328) :
    Calls Tryd.prog 6 #[.slice p t.length c] w fun e w' => CsO w t e w' := by
  have H : Hid (RM w p t) := h
  have HL : Hid (∀ r ∈ t, r.length ≤ 70368744177664 ∧ ∀ f ∈ r, f.size ≤ 140737488355328) := hl2
  have hl9 : (t.length : Int) ≤ 70368744177664 := by omega
  clear h hl hl2
  go_enter Tryd.func6, Tryd.ntmps6
  go_upto_block 0 with fail
  go_cut [] (fun wx => w = wx ∧ Hid (∀ (j : Nat) (r : List ByteArray), t[j]? = some r → r ≠ []))
  case first =>
    go_wp2_with fail
    go_loopw [5] (fun s5 wr => ∃ i : Nat, s5 = .int .i64 (i : Int) ∧ i ≤ t.length ∧ w = wr ∧ Hid (∀ (j : Nat) (r : List ByteArray), j < i → t[j]? = some r → r ≠ [])) (fun s5 _ => t.length - (intOf s5).toNat)
    case atStart => exact ⟨0, rfl, Nat.zero_le _, rfl, fun j _ hj => absurd hj (Nat.not_lt_zero _)⟩
    case round =>
      obtain ⟨i, rfl, hi, rfl, HN⟩ := hrel
      by_cases hlt : i < t.length
      · have hlt' : (i : Int) < (t.length : Int) := by omega
        have hi0 : (0 : Int) ≤ (i : Int) := by omega
        have hx : t[i]? = some t[i] := List.getElem?_eq_getElem hlt
        obtain ⟨r, er⟩ : ∃ r, t[i] = r := ⟨_, rfl⟩
        rw [er] at hx
        obtain ⟨g, o, q, k, rfl, c1, -⟩ := H.out.at hx
        by_cases hr0 : r.length = 0
        · have er0 : r = [] := List.eq_nil_of_length_eq_zero hr0
          subst er0
          have HO : Hid (CsO w t (.returned (.tuple #[.string nul, .int .i64 3])) w) := by
            refine ⟨?_, Below.refl _ _⟩
            unfold csvS
            rw [csv_three hx]
            rfl
          clear hx er hr0
          go_wp2_with fail
          exact bodyPost_ret (v := .tuple #[.string nul, .int .i64 3]) (by simp [results, Tryd.results6, go_sem]) rfl HO
        · have hr1 : ¬ (r.length : Int) = 0 := by omega
          have HN2 : Hid (∀ (j : Nat) (r : List ByteArray), j < i + 1 → t[j]? = some r → r ≠ []) := fun j r' hj hr' => by
            by_cases e : j = i
            · subst e
              rw [hx] at hr'
              obtain rfl := Option.some.inj hr'
              intro h0
              rw [h0] at hr0
              exact hr0 rfl
            · exact HN.out j r' (by omega) hr'
          clear hx er
          go_wp2_with fail
          exact ⟨⟨i + 1, rfl, hlt, by first | rfl | trivial, HN2⟩, by simp [intOf]; omega⟩
      · have hlt' : ¬ (i : Int) < (t.length : Int) := by omega
        have HN2 : Hid (∀ (j : Nat) (r : List ByteArray), t[j]? = some r → r ≠ []) := fun j r hr => HN.out j r (by have := (List.getElem?_eq_some_iff.1 hr).1; omega) hr
        clear HN
        go_wp2_with fail
        go_meet
        case rel => exact ⟨rfl, HN2⟩
  case rest =>
  obtain ⟨rfl, HN⟩ := hcut
  apply_assumption
  have HCE : Hid (csvE (btt t) = if 4000 < (csvL (btt t)).length then 4 else 0) := csv_not HN.out
  go_upto_block 2 with fail
  go_cut [4] (fun s4 wx => Hid (BV w s4 (csvL (btt t)) wx ∧ (csvL (btt t)).length ≤ 4001))
  case first =>
    go_wp2_with fail
    go_loopw [4, 6] (fun s4 s6 wr => ∃ i : Nat, s6 = .int .i64 (i : Int) ∧ i ≤ t.length ∧ Hid (BV w s4 (csvL ((btt t).take i)) wr ∧ (csvL ((btt t).take i)).length ≤ 4001)) (fun _ s6 _ => t.length - (intOf s6).toNat)
    case atStart => exact ⟨0, rfl, Nat.zero_le _, BV.nil w, by simp [csvL]⟩
    case round =>
      obtain ⟨i, rfl, hi, HB⟩ := hrel
      by_cases hlt : i < t.length
      · have hlt' : (i : Int) < (t.length : Int) := by omega
        have hi0 : (0 : Int) ≤ (i : Int) := by omega
        have hx : t[i]? = some t[i] := List.getElem?_eq_getElem hlt
        obtain ⟨r, er⟩ : ∃ r, t[i] = r := ⟨_, rfl⟩
        rw [er] at hx
        have HX : Hid (t[i]? = some r) := hx
        have HRL : Hid (r.length ≤ 70368744177664 ∧ ∀ f ∈ r, f.size ≤ 140737488355328) := HL.out r (List.mem_of_getElem? hx)
        have hrl9 : (r.length : Int) ≤ 70368744177664 := by have := HRL.out.1; omega
        obtain ⟨g, o, q, k, rfl, c1, s1⟩ := H.out.at hx
        have HC : Hid (∀ wy, Bw w wy → wy.cell? ⟨g, o + i, none⟩ = some (.slice q r.length k) ∧ SM wy q r) := fun wy hb => by
          exact ⟨by rw [hb.cell (p := ⟨g, _, none⟩) (World.block_lt_of_cell? w _ c1)]; exact c1, s1.next hb⟩
        clear hx er c1 s1
        obtain ⟨w9, hw9⟩ : ∃ x, x = wr := ⟨_, rfl⟩
        subst hw9
        go_upto_block 4 with fail
        have HPRE : Hid (∀ k, 4000 < (csvL ((btt t).take i)).length + (fds (decide ((bts r).length = 1)) ((bts r).take k)).length → csvE (btt t) = 4) := fun k hk => by
          have h1 := csv_part (btt_at HX.out).2 k
          rw [HCE.out, if_pos (by omega)]
        have HNE : Hid (r ≠ []) := HN.out i r HX.out
        obtain ⟨PRE, ePRE⟩ : ∃ P, csvL ((btt t).take i) = P := ⟨_, rfl⟩
        have HNX : Hid (csvL ((btt t).take (i + 1)) = PRE ++ (fds (decide ((bts r).length = 1)) (bts r) ++ [10])) := by
          show _ = _
          rw [(btt_at HX.out).1, csv_snoc, ePRE]
          rfl
        rw [ePRE] at HB HPRE
        clear ePRE
        obtain ⟨on, eon⟩ : ∃ b, decide ((bts r).length = 1) = b := ⟨_, rfl⟩
        rw [eon] at HPRE HNX
        have HON : Hid (decide (r.length = 1) = on) := by show _ = _; rw [← eon]; unfold bts; rw [List.length_map]
        clear eon
        go_cut [4] (fun s4 wx => Hid (BV w s4 (PRE ++ fds on (bts r)) wx ∧ (PRE ++ fds on (bts r)).length ≤ 4000))
        case first =>
          go_wp2_with fail
          go_loopw [4, 7] (fun s4 s7 wr => ∃ k : Nat, s7 = .int .i64 (k : Int) ∧ k ≤ r.length ∧ Hid (BV w s4 (PRE ++ fds on ((bts r).take k)) wr ∧ (PRE ++ fds on ((bts r).take k)).length ≤ 4001 ∧ (0 < k → (PRE ++ fds on ((bts r).take k)).length ≤ 4000))) (fun _ s7 _ => r.length - (intOf s7).toNat)
          case atStart => exact ⟨0, rfl, Nat.zero_le _, by rw [List.take_zero]; simpa [fds] using HB.out.1, by rw [List.take_zero]; simpa [fds] using HB.out.2, fun h => absurd h (Nat.lt_irrefl 0)⟩
          case round =>
            obtain ⟨j, rfl, hj, HF⟩ := hrel
            by_cases hjl : j < r.length
            · have hjl' : (j : Int) < (r.length : Int) := by omega
              have hj0 : (0 : Int) ≤ (j : Int) := by omega
              have hx : r[j]? = some r[j] := List.getElem?_eq_getElem hjl
              obtain ⟨f, ef⟩ : ∃ f, r[j] = f := ⟨_, rfl⟩
              rw [ef] at hx
              have HFS := HRL.out.2 f (List.mem_of_getElem? hx)
              have hfs9 : (f.size : Int) ≤ 140737488355328 := by omega
              obtain ⟨gq, oq, rfl, -⟩ := (HC.out wr HF.out.1.below).2.at hx
              obtain ⟨c1, s1⟩ := HC.out wr HF.out.1.below
              obtain ⟨gq', oq', eq1, x1⟩ := s1.at hx
              injection eq1 with eq1
              injection eq1 with eq1 eq2
              subst eq1
              subst eq2
              have HFD := fds_at on hx
              rw [fld_is] at HFD
              have HFD2 : Hid (fds on ((bts r).take (j + 1)) = fds on ((bts r).take j) ++ (sepL j ++ (mrk (qfd f.toList on) ++ esq f.toList ++ mrk (qfd f.toList on)))) := HFD
              have HPR : Hid (4000 < PRE.length + (fds on ((bts r).take (j + 1))).length → csvE (btt t) = 4) := fun h => HPRE.out (j + 1) h
              clear hx ef s1 HFD HFS
              obtain ⟨D, eD⟩ : ∃ D, PRE ++ fds on ((bts r).take j) = D := ⟨_, rfl⟩
              have HD : Hid (PRE ++ fds on ((bts r).take j) = D) := eD
              rw [eD] at HF
              clear eD
              go_upto_if 47 with fail
              clear c1 x1
              go_cut [4] (fun s4 wx => Hid (BV w s4 (D ++ sepL j) wx ∧ (D ++ sepL j).length ≤ 4001))
              case first =>
                by_cases hjz : j = 0
                · have hjz' : ¬ (j : Int) > 0 := by omega
                  have HE : Hid (BV w u4 (D ++ sepL j) wr ∧ (D ++ sepL j).length ≤ 4001) := by
                    have e : sepL j = [] := by unfold sepL; rw [if_pos hjz]
                    rw [e, List.append_nil]
                    exact ⟨HF.out.1, HF.out.2.1⟩
                  clear HF hjz
                  go_wp2_with fail
                  go_meet
                  case rel => exact HE
                · have hjz' : (j : Int) > 0 := by omega
                  have HFB := HF.out.2.2 (by omega)
                  obtain ⟨p4, k4, e4, -⟩ := HF.out.1.form
                  subst e4
                  obtain ⟨g2, c2, w3, hr, hV3⟩ := HF.out.1.one (by have := HF.out.2.1; omega) 44
                  have HRR : Hid ((Builtin.append_ #[39, 39] 39 #[.slice p4 (D).length k4, .slice (some ⟨wr.heap.size, 0, none⟩) 1 1]).run Tryd.prog (wr.alloc (.cells #[.int .u8 44] 5)) = .ok (.slice (some ⟨g2, 0, none⟩) ((D).length + 1) c2) w3) := hr
                  have HV0 : Hid (BV w (.slice (some ⟨g2, 0, none⟩) ((D).length + 1) c2) ((D) ++ [44]) w3) := hV3
                  clear hr hV3
                  have HE : Hid (BV w (.slice (some ⟨g2, 0, none⟩) (D.length + 1) c2) (D ++ sepL j) w3 ∧ (D ++ sepL j).length ≤ 4001) := by
                    have e : sepL j = [44] := by unfold sepL; rw [if_neg hjz]
                    rw [e]
                    refine ⟨HV0.out, ?_⟩
                    rw [List.length_append, List.length_singleton]
                    omega
                  clear HF HFB hjz HV0
                  generalize D.length + 1 = n3 at *
                  generalize D.length = n2 at *
                  go_wp2_with (first | (at_builtin; refine wpList_append_eq rfl _ _ 39 39 rfl _ _ _ _ rfl rfl HRR.out ?_))
                  go_meet
                  case rel => exact HE
              case rest =>
              have HG := hcut
              clear hcut HF
              obtain ⟨E1, eE1⟩ : ∃ E, D ++ sepL j = E := ⟨_, rfl⟩
              have HE1 : Hid (D ++ sepL j = E1) := eE1
              rw [eE1] at HG
              clear eE1
              apply_assumption
              obtain ⟨c1, -⟩ := HC.out wc HG.out.1.below
              go_upto_region 16 with fail
              go_cut [9] (fun s9 wx => s9 = .bool (f.toList.isEmpty && on) ∧ wc = wx)
              case first =>
                cases hfe : f.toList.isEmpty
                · go_wp2_with fail
                  go_meet
                  case rel => exact ⟨by simp [hfe], by first | rfl | trivial⟩
                · have hon := HON.out
                  by_cases hr1 : r.length = 1
                  · have hr1' : (r.length : Int) = 1 := by omega
                    rw [decide_eq_true hr1] at hon
                    subst hon
                    go_wp2_with fail
                    go_meet
                    case rel => exact ⟨by simp [hfe], by first | rfl | trivial⟩
                  · have hr1' : ¬ (r.length : Int) = 1 := by omega
                    rw [decide_eq_false hr1] at hon
                    subst hon
                    go_wp2_with fail
                    go_meet
                    case rel => exact ⟨by first | (simp [hfe, hr1']; done) | (simp [hfe]; omega), by first | rfl | trivial⟩
              case rest =>
              obtain ⟨rfl, ewc⟩ := hcut
              subst ewc
              clear c1
              apply_assumption
              go_upto_block 6 with fail
              obtain ⟨w8, hw8⟩ : ∃ x, x = wc := ⟨_, rfl⟩
              subst hw8
              go_cut [9] (fun s9 wx => s9 = .bool (qfd f.toList on) ∧ w8 = wx)
              case first =>
                go_wp2_with fail
                go_loopw [9, 10] (fun s9 s10 wr => ∃ m : Nat, s10 = .int .i64 (m : Int) ∧ s9 = .bool ((f.toList.isEmpty && on) || (f.toList.take m).any spc) ∧ m ≤ f.size ∧ w8 = wr) (fun _ s10 _ => f.size - (intOf s10).toNat)
                case atStart => exact ⟨0, rfl, by simp, Nat.zero_le _, by first | rfl | trivial⟩
                case round =>
                  obtain ⟨m, rfl, rfl, hm, ewr⟩ := hrel
                  subst ewr
                  by_cases hml : m < f.size
                  · have hml' : (m : Int) < (f.size : Int) := by omega
                    have hm0 : (0 : Int) ≤ (m : Int) := by omega
                    obtain ⟨bb, ebb⟩ : ∃ b, ((f.toList.isEmpty && on) || (f.toList.take m).any spc) = b := ⟨_, rfl⟩
                    have HT : Hid (((f.toList.isEmpty && on) || (f.toList.take (m + 1)).any spc) = (bb || spc f[m])) := by show _ = _; rw [any_next (at_l4 hml), ← Bool.or_assoc, ebb]
                    rw [ebb]
                    clear ebb
                    by_cases h1 : f[m] = 44
                    · have h1' : ((f[m].toNat : Nat) : Int) = 44 := by rw [h1]; rfl
                      have HS : Hid (((f.toList.isEmpty && on) || (f.toList.take (m + 1)).any spc) = true) := by show _ = _; rw [HT.out]; simp [spc, h1]
                      clear HT h1
                      go_wp2_with fail
                      exact ⟨⟨m + 1, rfl, by rw [HS.out], hml, by first | rfl | trivial⟩, by simp [intOf]; omega⟩
                    · have h1' : ¬ (((f[m].toNat : Nat) : Int) = 44) := fun e => h1 (UInt8.toNat_inj.1 (by show f[m].toNat = 44; omega))
                      by_cases h2 : f[m] = 34
                      · have h2' : ((f[m].toNat : Nat) : Int) = 34 := by rw [h2]; rfl
                        have HS : Hid (((f.toList.isEmpty && on) || (f.toList.take (m + 1)).any spc) = true) := by show _ = _; rw [HT.out]; simp [spc, h2]
                        clear HT h1 h2
                        go_wp2_with fail
                        exact ⟨⟨m + 1, rfl, by rw [HS.out], hml, by first | rfl | trivial⟩, by simp [intOf]; omega⟩
                      · have h2' : ¬ (((f[m].toNat : Nat) : Int) = 34) := fun e => h2 (UInt8.toNat_inj.1 (by show f[m].toNat = 34; omega))
                        by_cases h3 : f[m] = 10
                        · have h3' : ((f[m].toNat : Nat) : Int) = 10 := by rw [h3]; rfl
                          have HS : Hid (((f.toList.isEmpty && on) || (f.toList.take (m + 1)).any spc) = true) := by show _ = _; rw [HT.out]; simp [spc, h3]
                          clear HT h1 h2 h3
                          go_wp2_with fail
                          exact ⟨⟨m + 1, rfl, by rw [HS.out], hml, by first | rfl | trivial⟩, by simp [intOf]; omega⟩
                        · have h3' : ¬ (((f[m].toNat : Nat) : Int) = 10) := fun e => h3 (UInt8.toNat_inj.1 (by show f[m].toNat = 10; omega))
                          by_cases h4 : f[m] = 13
                          · have h4' : ((f[m].toNat : Nat) : Int) = 13 := by rw [h4]; rfl
                            have HS : Hid (((f.toList.isEmpty && on) || (f.toList.take (m + 1)).any spc) = true) := by show _ = _; rw [HT.out]; simp [spc, h4]
                            clear HT h1 h2 h3 h4
                            go_wp2_with fail
                            exact ⟨⟨m + 1, rfl, by rw [HS.out], hml, by first | rfl | trivial⟩, by simp [intOf]; omega⟩
                          · have h4' : ¬ (((f[m].toNat : Nat) : Int) = 13) := fun e => h4 (UInt8.toNat_inj.1 (by show f[m].toNat = 13; omega))
                            have h4b : (((f[m].toNat : Nat) : Int) == 13) = false := by simpa using h4'
                            have h1b : (((f[m].toNat : Nat) : Int) == 44) = false := by simpa using h1'
                            have h2b : (((f[m].toNat : Nat) : Int) == 34) = false := by simpa using h2'
                            have h3b : (((f[m].toNat : Nat) : Int) == 10) = false := by simpa using h3'
                            have HS : Hid (((f.toList.isEmpty && on) || (f.toList.take (m + 1)).any spc) = bb) := by show _ = _; rw [HT.out]; simp [spc, h1, h2, h3, h4]
                            clear HT h1 h2 h3 h4
                            go_wp2_with fail
                            exact ⟨⟨m + 1, rfl, by rw [HS.out], hml, by first | rfl | trivial⟩, by simp [intOf]; omega⟩
                  · have hml' : ¬ (m : Int) < (f.size : Int) := by omega
                    have e1 : f.toList.take m = f.toList := List.take_of_length_le (by rw [size_list]; omega)
                    rw [e1]
                    go_wp2_with fail
                    go_meet
                    case rel => exact ⟨rfl, by first | rfl | trivial⟩
              case rest =>
              obtain ⟨rfl, ewc⟩ := hcut
              subst ewc
              apply_assumption
              obtain ⟨Q, eQ⟩ : ∃ b, qfd f.toList on = b := ⟨_, rfl⟩
              rw [eQ] at HFD2 ⊢
              clear eQ
              go_upto_if 89 with fail
              go_cut [4] (fun s4 wx => Hid (BV w s4 (E1 ++ mrk Q) wx ∧ (E1 ++ mrk Q).length ≤ 4002))
              case first =>
                cases Q
                · have HE : Hid (BV w u4 (E1 ++ mrk false) w8 ∧ (E1 ++ mrk false).length ≤ 4002) := by
                    have e : mrk false = [] := rfl
                    rw [e, List.append_nil]
                    exact ⟨HG.out.1, by have := HG.out.2; omega⟩
                  clear HG
                  go_wp2_with fail
                  go_meet
                  case rel => exact HE
                · obtain ⟨p4, k4, e4, -⟩ := HG.out.1.form
                  subst e4
                  obtain ⟨g2, c2, w3, hr, hV3⟩ := HG.out.1.one (by have := HG.out.2; omega) 34
                  have HRR : Hid ((Builtin.append_ #[39, 39] 39 #[.slice p4 (E1).length k4, .slice (some ⟨w8.heap.size, 0, none⟩) 1 1]).run Tryd.prog (w8.alloc (.cells #[.int .u8 34] 5)) = .ok (.slice (some ⟨g2, 0, none⟩) ((E1).length + 1) c2) w3) := hr
                  have HV0 : Hid (BV w (.slice (some ⟨g2, 0, none⟩) ((E1).length + 1) c2) ((E1) ++ [34]) w3) := hV3
                  clear hr hV3
                  have HE : Hid (BV w (.slice (some ⟨g2, 0, none⟩) (E1.length + 1) c2) (E1 ++ mrk true) w3 ∧ (E1 ++ mrk true).length ≤ 4002) := by
                    have e : mrk true = [34] := rfl
                    rw [e]
                    refine ⟨HV0.out, ?_⟩
                    rw [List.length_append, List.length_singleton]
                    have := HG.out.2
                    omega
                  clear HG HV0
                  generalize E1.length + 1 = n3 at *
                  generalize E1.length = n2 at *
                  go_wp2_with (first | (at_builtin; refine wpList_append_eq rfl _ _ 39 39 rfl _ _ _ _ rfl rfl HRR.out ?_))
                  go_meet
                  case rel => exact HE
              case rest =>
              have HH := hcut
              clear hcut HG
              obtain ⟨E2, eE2⟩ : ∃ E, E1 ++ mrk Q = E := ⟨_, rfl⟩
              have HE2 : Hid (E1 ++ mrk Q = E2) := eE2
              rw [eE2] at HH
              clear eE2
              apply_assumption
              go_upto_block 8 with fail
              obtain ⟨w7, hw7⟩ : ∃ x, x = wc := ⟨_, rfl⟩
              subst hw7
              go_cut [4] (fun s4 wx => ∃ m : Nat, m ≤ f.size ∧ Hid (BV w s4 (E2 ++ esq (f.toList.take m)) wx ∧ (E2 ++ esq (f.toList.take m)).length ≤ 4003 ∧ (m = f.size ∨ 4000 < (E2 ++ esq (f.toList.take m)).length)))
              case first =>
                go_wp2_with fail
                go_loopw [4, 11] (fun s4 s11 wr => ∃ m : Nat, s11 = .int .i64 (m : Int) ∧ m ≤ f.size ∧ Hid (BV w s4 (E2 ++ esq (f.toList.take m)) wr ∧ (E2 ++ esq (f.toList.take m)).length ≤ 4003)) (fun _ s11 _ => f.size - (intOf s11).toNat)
                case atStart => exact ⟨0, rfl, Nat.zero_le _, by simpa [esq] using HH.out.1, by simpa [esq] using (by have := HH.out.2; omega : E2.length ≤ 4003)⟩
                case round =>
                  obtain ⟨m, rfl, hm, HM⟩ := hrel
                  obtain ⟨F2, eF2⟩ : ∃ E, E2 ++ esq (f.toList.take m) = E := ⟨_, rfl⟩
                  have HF2 : Hid (E2 ++ esq (f.toList.take m) = F2) := eF2
                  rw [eF2] at HM
                  clear eF2
                  by_cases hml : m < f.size
                  · have hml' : (m : Int) < (f.size : Int) := by omega
                    have hm0 : (0 : Int) ≤ (m : Int) := by omega
                    by_cases hfull : F2.length ≤ 4000
                    · have hfull' : (F2.length : Int) ≤ 4000 := by omega
                      have HNX : Hid (E2 ++ esq (f.toList.take (m + 1)) = F2 ++ (if f[m] = 34 then [34, 34] else [f[m]])) := by
                        show _ = _
                        rw [esq_next (at_l4 hml), ← List.append_assoc, HF2.out]
                      obtain ⟨p4, k4, e4, -⟩ := HM.out.1.form
                      subst e4
                      obtain ⟨g2, c2, w3, hr, hV3⟩ := HM.out.1.one (by omega) f[m]
                      have HRR : Hid ((Builtin.append_ #[39, 39] 39 #[.slice p4 F2.length k4, .slice (some ⟨wr.heap.size, 0, none⟩) 1 1]).run Tryd.prog (wr.alloc (.cells #[.int .u8 (f[m].toNat : Int)] 5)) = .ok (.slice (some ⟨g2, 0, none⟩) (F2.length + 1) c2) w3) := hr
                      have HV1 : Hid (BV w (.slice (some ⟨g2, 0, none⟩) (F2.length + 1) c2) (F2 ++ [f[m]]) w3) := hV3
                      clear hr hV3 HM
                      by_cases h1 : f[m] = 34
                      · have h1' : ((f[m].toNat : Nat) : Int) = 34 := by rw [h1]; rfl
                        obtain ⟨g5, c5, w5, hr5, hV5⟩ := HV1.out.one (by rw [List.length_append, List.length_singleton]; omega) 34
                        have HR5 : Hid ((Builtin.append_ #[39, 39] 39 #[.slice (some ⟨g2, 0, none⟩) (F2.length + 1) c2, .slice (some ⟨w3.heap.size, 0, none⟩) 1 1]).run Tryd.prog (w3.alloc (.cells #[.int .u8 34] 5)) = .ok (.slice (some ⟨g5, 0, none⟩) ((F2 ++ [f[m]]).length + 1) c5) w5) := hr5
                        have HE : Hid (BV w (.slice (some ⟨g5, 0, none⟩) ((F2 ++ [f[m]]).length + 1) c5) (E2 ++ esq (f.toList.take (m + 1))) w5 ∧ (E2 ++ esq (f.toList.take (m + 1))).length ≤ 4003) := by
                          rw [HNX.out, if_pos h1]
                          have e : F2 ++ [34, 34] = F2 ++ [f[m]] ++ [34] := by rw [h1]; simp
                          rw [e]
                          refine ⟨hV5, ?_⟩
                          rw [List.length_append, List.length_append, List.length_singleton, List.length_singleton]
                          omega
                        have HR6 : Hid ((Builtin.append_ #[39, 39] 39 #[.slice p4 F2.length k4, .slice (some ⟨wr.heap.size, 0, none⟩) 1 1]).run Tryd.prog (wr.alloc (.cells #[.int .u8 34] 5)) = .ok (.slice (some ⟨g2, 0, none⟩) (F2.length + 1) c2) w3) := by
                          have := HRR.out
                          rw [h1'] at this
                          exact this
                        clear hr5 hV5 HV1 HNX h1
                        generalize (F2 ++ [f[m]]).length + 1 = n5 at *
                        generalize F2.length + 1 = n3 at *
                        generalize F2.length = n2 at *
                        go_wp2_with (first | (at_builtin; refine wpList_append_eq rfl _ _ 39 39 rfl _ _ _ _ rfl rfl HR6.out ?_) | (at_builtin; refine wpList_append_eq rfl _ _ 39 39 rfl _ _ _ _ rfl rfl HR5.out ?_))
                        exact ⟨⟨m + 1, rfl, hml, HE⟩, by simp [intOf]; omega⟩
                      · have h1' : ¬ (((f[m].toNat : Nat) : Int) = 34) := fun e => h1 (UInt8.toNat_inj.1 (by show f[m].toNat = 34; omega))
                        have HE : Hid (BV w (.slice (some ⟨g2, 0, none⟩) (F2.length + 1) c2) (E2 ++ esq (f.toList.take (m + 1))) w3 ∧ (E2 ++ esq (f.toList.take (m + 1))).length ≤ 4003) := by
                          rw [HNX.out, if_neg h1]
                          refine ⟨HV1.out, ?_⟩
                          rw [List.length_append, List.length_singleton]
                          omega
                        clear HV1 HNX h1
                        generalize F2.length + 1 = n3 at *
                        generalize F2.length = n2 at *
                        go_wp2_with (first | (at_builtin; refine wpList_append_eq rfl _ _ 39 39 rfl _ _ _ _ rfl rfl HRR.out ?_))
                        exact ⟨⟨m + 1, rfl, hml, HE⟩, by simp [intOf]; omega⟩
                    · have hfull' : ¬ (F2.length : Int) ≤ 4000 := by omega
                      have HE : ∃ m : Nat, m ≤ f.size ∧ Hid (BV w u4 (E2 ++ esq (f.toList.take m)) wr ∧ (E2 ++ esq (f.toList.take m)).length ≤ 4003 ∧ (m = f.size ∨ 4000 < (E2 ++ esq (f.toList.take m)).length)) := ⟨m, hm, by rw [HF2.out]; exact ⟨HM.out.1, HM.out.2, .inr (by omega)⟩⟩
                      have HEE := Hid.mk' HE
                      obtain ⟨p4, k4, e4, -⟩ := HM.out.1.form
                      subst e4
                      clear HM HE
                      generalize F2.length = n2 at *
                      go_wp2_with fail
                      go_meet
                      case rel => exact HEE.out
                  · have hml' : ¬ (m : Int) < (f.size : Int) := by omega
                    have HE : ∃ m : Nat, m ≤ f.size ∧ Hid (BV w u4 (E2 ++ esq (f.toList.take m)) wr ∧ (E2 ++ esq (f.toList.take m)).length ≤ 4003 ∧ (m = f.size ∨ 4000 < (E2 ++ esq (f.toList.take m)).length)) := ⟨m, hm, by rw [HF2.out]; exact ⟨HM.out.1, HM.out.2, .inl (by omega)⟩⟩
                    have HEE := Hid.mk' HE
                    clear HM HE
                    go_wp2_with fail
                    go_meet
                    case rel => exact HEE.out
              case rest =>
              obtain ⟨m, hm, HM⟩ := hcut
              clear HH
              apply_assumption
              obtain ⟨E3, eE3⟩ : ∃ E, E2 ++ esq (f.toList.take m) = E := ⟨_, rfl⟩
              have HE3 : Hid (E2 ++ esq (f.toList.take m) = E3) := eE3
              rw [eE3] at HM
              clear eE3
              go_upto_if 117 with fail
              go_cut [4] (fun s4 wx => Hid (BV w s4 (E3 ++ mrk Q) wx))
              case first =>
                cases Q
                · have HE : Hid (BV w u4 (E3 ++ mrk false) wc) := by
                    have e : mrk false = [] := rfl
                    rw [e, List.append_nil]
                    exact HM.out.1
                  clear HM
                  go_wp2_with fail
                  go_meet
                  case rel => exact HE
                · obtain ⟨p4, k4, e4, -⟩ := HM.out.1.form
                  subst e4
                  obtain ⟨g2, c2, w3, hr, hV3⟩ := HM.out.1.one (by have := HM.out.2.1; omega) 34
                  have HRR : Hid ((Builtin.append_ #[39, 39] 39 #[.slice p4 E3.length k4, .slice (some ⟨wc.heap.size, 0, none⟩) 1 1]).run Tryd.prog (wc.alloc (.cells #[.int .u8 34] 5)) = .ok (.slice (some ⟨g2, 0, none⟩) (E3.length + 1) c2) w3) := hr
                  have HE : Hid (BV w (.slice (some ⟨g2, 0, none⟩) (E3.length + 1) c2) (E3 ++ mrk true) w3) := hV3
                  clear HM hr hV3
                  generalize E3.length + 1 = n3 at *
                  generalize E3.length = n2 at *
                  go_wp2_with (first | (at_builtin; refine wpList_append_eq rfl _ _ 39 39 rfl _ _ _ _ rfl rfl HRR.out ?_))
                  go_meet
                  case rel => exact HE
              case rest =>
              have HZ := hcut
              clear hcut
              apply_assumption
              have HLEN : Hid ((PRE ++ fds on ((bts r).take (j + 1))).length = (E2 ++ esq f.toList ++ mrk Q).length) := by
                show _ = _
                rw [HFD2.out, ← HE2.out, ← HE1.out, ← HD.out]
                simp only [List.append_assoc]
              have HTK := esq_take f.toList m
              have HE3L : Hid (E3.length = E2.length + (esq (f.toList.take m)).length) := by show _ = _; rw [← HE3.out, List.length_append]
              obtain ⟨p4, k4, e4, -⟩ := HZ.out.form
              subst e4
              by_cases hbig : 4000 < (E3 ++ mrk Q).length
              · have hbig' : ((E3 ++ mrk Q).length : Int) > 4000 := by omega
                have HO : Hid (CsO w t (.returned (.tuple #[.string nul, .int .i64 4])) wc) := by
                  refine ⟨?_, HZ.out.below⟩
                  have e : csvE (btt t) = 4 := by
                    refine HPR.out ?_
                    have h1 := HLEN.out
                    have h2 := HE3L.out
                    rw [List.length_append] at hbig
                    rw [List.length_append, List.length_append, List.length_append] at h1
                    omega
                  unfold csvS
                  rw [e]
                  rfl
                clear HZ HM
                generalize (E3 ++ mrk Q).length = n4 at *
                go_wp2_with fail
                exact bodyPost_ret (v := .tuple #[.string nul, .int .i64 4]) (by simp [results, Tryd.results6, go_sem]) rfl HO
              · have hbig' : ¬ ((E3 ++ mrk Q).length : Int) > 4000 := by omega
                have HE : Hid (BV w (.slice p4 (E3 ++ mrk Q).length k4) (PRE ++ fds on ((bts r).take (j + 1))) wc ∧ (PRE ++ fds on ((bts r).take (j + 1))).length ≤ 4001 ∧ (0 < j + 1 → (PRE ++ fds on ((bts r).take (j + 1))).length ≤ 4000)) := by
                  have hms : m = f.size := by
                    rcases HM.out.2.2 with h | h
                    · exact h
                    · rw [List.length_append] at hbig
                      omega
                  have e1 : f.toList.take m = f.toList := List.take_of_length_le (by rw [size_list]; omega)
                  have e2 : PRE ++ fds on ((bts r).take (j + 1)) = E3 ++ mrk Q := by
                    rw [HFD2.out, ← HE3.out, e1, ← HE2.out, ← HE1.out, ← HD.out]
                    simp only [List.append_assoc]
                  rw [e2]
                  exact ⟨HZ.out, by omega, fun _ => by omega⟩
                clear HZ HM
                generalize (E3 ++ mrk Q).length = n4 at *
                go_wp2_with fail
                exact ⟨⟨j + 1, rfl, hjl, HE⟩, by simp [intOf]; omega⟩
            · have hjl' : ¬ (j : Int) < (r.length : Int) := by omega
              have e1 : (bts r).take j = bts r := List.take_of_length_le (by unfold bts; rw [List.length_map]; omega)
              have HE : Hid (BV w u4 (PRE ++ fds on (bts r)) wr ∧ (PRE ++ fds on (bts r)).length ≤ 4000) := by
                have h := HF.out
                rw [e1] at h
                refine ⟨h.1, h.2.2 ?_⟩
                have : r.length ≠ 0 := fun h0 => HNE.out (List.eq_nil_of_length_eq_zero h0)
                omega
              have d1 := (HC.out wr HF.out.1.below).1
              clear HF
              go_wp2_with fail
              go_meet
              case rel => exact HE
        case rest =>
        have HR := hcut
        clear hcut
        apply_assumption
        obtain ⟨p4, k4, e4, -⟩ := HR.out.1.form
        subst e4
        obtain ⟨g2, c2, w3, hr, hV3⟩ := HR.out.1.one (by have := HR.out.2; omega) 10
        have HRR : Hid ((Builtin.append_ #[39, 39] 39 #[.slice p4 (PRE ++ fds on (bts r)).length k4, .slice (some ⟨wc.heap.size, 0, none⟩) 1 1]).run Tryd.prog (wc.alloc (.cells #[.int .u8 10] 5)) = .ok (.slice (some ⟨g2, 0, none⟩) ((PRE ++ fds on (bts r)).length + 1) c2) w3) := hr
        have HV3 : Hid (BV w (.slice (some ⟨g2, 0, none⟩) ((PRE ++ fds on (bts r)).length + 1) c2) (csvL ((btt t).take (i + 1))) w3 ∧ (csvL ((btt t).take (i + 1))).length ≤ 4001) := by
          rw [HNX.out, ← List.append_assoc]
          refine ⟨hV3, ?_⟩
          rw [List.length_append, List.length_singleton]
          have := HR.out.2
          omega
        clear hr hV3 HR
        generalize (PRE ++ fds on (bts r)).length + 1 = n3 at *
        generalize (PRE ++ fds on (bts r)).length = n2 at *
        go_wp2_with (first | (at_builtin; refine wpList_append_eq rfl _ _ 39 39 rfl _ _ _ _ rfl rfl HRR.out ?_))
        exact ⟨⟨i + 1, rfl, hlt, HV3⟩, by simp [intOf]; omega⟩
      · have hlt' : ¬ (i : Int) < (t.length : Int) := by omega
        have e1 : (btt t).take i = btt t := List.take_of_length_le (by unfold btt; rw [List.length_map]; omega)
        rw [e1] at HB
        go_wp2_with fail
        go_meet
        case rel => exact HB
  case rest =>
  have HB := hcut
  clear hcut
  apply_assumption
  by_cases hbig : 4000 < (csvL (btt t)).length
  · have HO : Hid (CsO w t (.returned (.tuple #[.string nul, .int .i64 4])) wc) := by
      refine ⟨?_, HB.out.1.below⟩
      have e := HCE.out
      rw [if_pos hbig] at e
      unfold csvS
      rw [e]
      rfl
    have hbig' : ((csvL (btt t)).length : Int) > 4000 := by omega
    obtain ⟨p4, k4, e4, -⟩ := HB.out.1.form
    subst e4
    clear HB HCE
    generalize (csvL (btt t)).length = n4 at *
    go_wp2_with fail
    exact bodyPost_ret (v := .tuple #[.string nul, .int .i64 4]) (by simp [results, Tryd.results6, go_sem]) rfl HO
  · have HO : Hid (CsO w t (.returned (.tuple #[.string (txt (csvL (btt t))), .int .i64 0])) wc) := by
      refine ⟨?_, HB.out.1.below⟩
      have e := HCE.out
      rw [if_neg hbig] at e
      unfold csvS
      rw [e]
      rfl
    have hbig' : ¬ ((csvL (btt t)).length : Int) > 4000 := by omega
    have hcv := HB.out.1.whole
    obtain ⟨p4, k4, e4, -⟩ := HB.out.1.form
    subst e4
    clear HB HCE
    generalize (csvL (btt t)).length = n4 at *
    go_wp2_with fail
    exact bodyPost_ret (v := .tuple #[.string (txt (csvL (btt t))), .int .i64 0]) (by simp [results, Tryd.results6, go_sem]) rfl HO
end Go.Proofs.YtldmjipkmplhbaaDoor.fw
