
/- csv.Write: rows as text, walked. Conditions: as each theorem says. -/
import Derived.Test.YtldmjipkmplhbaaDoorCwh
import Derived.Test.YtldmjipkmplhbaaDoorCvc
import Derived.Test.YtldmjipkmplhbaaDoorShd
namespace Go.Proofs.YtldmjipkmplhbaaDoor.fw
open Go.RowKit Go.Sort
theorem esq_plain {f : List UInt8} (h : f.any spc = false) : esq f = f := by
  induction f with
  | nil => rfl
  | cons c f ih =>
    rw [List.any_cons, Bool.or_eq_false_iff] at h
    have e : esq (c :: f) = (if c = 34 then [34, 34] else [c]) ++ esq f := by simp [esq]
    rw [e, if_neg (spc_not h.1).2.1, ih h.2]
    rfl
theorem esq_le (f : List UInt8) : (esq f).length ≤ 2 * f.length := by
  induction f with
  | nil => simp [esq]
  | cons c f ih =>
    have e : esq (c :: f) = (if c = 34 then [34, 34] else [c]) ++ esq f := by simp [esq]
    rw [e, List.length_append, List.length_cons]
    split <;> simp <;> omega
theorem fld_le (f : List UInt8) (one : Bool) : f.length ≤ (fld f one).length ∧ (fld f one).length ≤ 2 * f.length + 2 := by
  have h1 := esq_len f
  have h2 := esq_le f
  unfold fld
  split
  · simp only [List.length_append, List.length_cons, List.length_nil]; omega
  · omega
theorem fld_plain {f : List UInt8} {one : Bool} (h : qfd f one = false) : fld f one = f := by
  unfold fld
  rw [if_neg (by rw [h]; decide)]
  unfold qfd at h
  rw [Bool.or_eq_false_iff] at h
  exact esq_plain h.2
set_option maxRecDepth 1000000 in
set_option maxHeartbeats 4000000 in
theorem written_any (s : ByteArray) (b : Bool) (w : World) (hs : s.size ≤ 4000) (hm : ∃ m, w.cell? ⟨1, 0, none⟩ = some (.int .i64 m)) :
    Calls Tryd.prog 17 #[.string s, .bool b] w fun e w' => e = .returned (.string (txt (fld s.toList b))) ∧ Bw w w' := by
  have HCA : Hid (Calls Tryd.prog 23 #[.string s, .string QC] w fun e w' => e = .returned (.bool (s.toList.any spc)) ∧ Bw w w') := containsAny_any s w hs
  have HRA : Hid (∀ wx, Bw w wx → Calls Tryd.prog 24 #[.string s, .string ⟨#[34]⟩, .string ⟨#[34, 34]⟩] wx fun e w' => e = .returned (.string (txt (esq s.toList))) ∧ Bw wx w') := fun wx hb => by
    obtain ⟨m, hm⟩ := hm
    have hm' : wx.cell? ⟨1, 0, none⟩ = some (.int .i64 m) := by rw [hb.cell (p := ⟨1, 0, none⟩) (World.block_lt_of_cell? w _ hm)]; exact hm
    have hc := count_le' s ⟨#[34]⟩
    have h := Tryd.strings_ReplaceAll s ⟨#[34]⟩ ⟨#[34, 34]⟩ m wx (by omega) hm' (by decide) (by show _ + _ * 2 ≤ _; omega)
    refine h.mono fun e w' ⟨he, hw⟩ => ⟨?_, hw⟩
    have e1 : Lib.replaceAll s.data.toList (ByteArray.mk #[34]).data.toList (ByteArray.mk #[34, 34]).data.toList = esq s.toList := by
      rw [data_list]
      exact repl_esq _
    rw [he, e1]
    rfl
  have HQ : Hid (qfd s.toList b = true → txt (fld s.toList b) = ⟨#[34]⟩ ++ txt (esq s.toList) ++ ⟨#[34]⟩) := fun h => by
    unfold fld
    rw [if_pos h]
    apply ByteArray.ext
    simp [txt, ByteArray.data_append]
  have HP : Hid (qfd s.toList b = false → txt (fld s.toList b) = s) := fun h => by rw [fld_plain h, txt_list]
  have hX : (txt (esq s.toList)).size ≤ 8000 := by
    have h1 := esq_le s.toList
    rw [size_list] at h1
    have h2 : (txt (esq s.toList)).size = (esq s.toList).length := rfl
    omega
  have hX1 : ¬ 9223372036854775807 < 1 + (txt (esq s.toList)).size := by omega
  have hX2 : ¬ 9223372036854775807 < 1 + (txt (esq s.toList)).size + 1 := by omega
  clear hm hs hX
  by_cases he : s.toList.isEmpty = true
  · have hnil : s.toList = [] := by simpa using he
    cases b with
    | true =>
      have hq := HQ.out (by unfold qfd; rw [he]; rfl)
      rw [hq]
      clear HQ HP hq hnil HCA
      go_enter Tryd.func17, Tryd.ntmps17
      go_wp2_with (go_at_call 24; with_reducible refine (HRA.out _ (Below.refl _ _)).mono ?_; rintro e w' ⟨rfl, hw⟩)
      go_ret
      exact ⟨rfl, by assumption⟩
    | false =>
      have hq := HP.out (by unfold qfd; rw [hnil]; rfl)
      rw [hq]
      have HCA2 : Hid (Calls Tryd.prog 23 #[.string s, .string QC] w fun e w' => e = .returned (.bool false) ∧ Bw w w') := by
        have := HCA.out
        rw [show s.toList.any spc = false by rw [hnil]; rfl] at this
        exact this
      clear HQ HP hq hnil HCA HRA
      go_enter Tryd.func17, Tryd.ntmps17
      go_wp2_with (go_at_call 23; with_reducible refine HCA2.out.mono ?_; rintro e w' ⟨rfl, hw⟩)
      go_ret
      exact ⟨rfl, by assumption⟩
  · have he' : s.toList.isEmpty = false := Bool.eq_false_iff.2 he
    clear he
    by_cases hsp : s.toList.any spc = true
    · have hq := HQ.out (by unfold qfd; rw [hsp]; simp)
      rw [hq]
      have HCA2 : Hid (Calls Tryd.prog 23 #[.string s, .string QC] w fun e w' => e = .returned (.bool true) ∧ Bw w w') := by
        have := HCA.out
        rw [hsp] at this
        exact this
      clear HQ HP hq HCA hsp
      go_enter Tryd.func17, Tryd.ntmps17
      go_wp2_with (first | (go_at_call 23; with_reducible refine HCA2.out.mono ?_; rintro e w2 ⟨rfl, hw⟩) | (go_at_call 24; with_reducible refine (HRA.out _ (by assumption)).mono ?_; rintro e w3 ⟨rfl, hw3⟩))
      go_ret
      exact ⟨rfl, Bw.tr hw hw3⟩
    · have hsp' : s.toList.any spc = false := Bool.eq_false_iff.2 hsp
      have hq := HP.out (by unfold qfd; rw [hsp', he']; rfl)
      rw [hq]
      have HCA2 : Hid (Calls Tryd.prog 23 #[.string s, .string QC] w fun e w' => e = .returned (.bool false) ∧ Bw w w') := by
        have := HCA.out
        rw [hsp'] at this
        exact this
      clear HQ HP hq HCA hsp hsp' HRA
      go_enter Tryd.func17, Tryd.ntmps17
      go_wp2_with (go_at_call 23; with_reducible refine HCA2.out.mono ?_; rintro e w' ⟨rfl, hw⟩)
      go_ret
      exact ⟨rfl, by assumption⟩
set_option maxRecDepth 1000000 in
set_option maxHeartbeats 4000000 in
theorem emptyRow_any (q : Option Addr) (n c : Nat) (w : World) : Calls Tryd.prog 13 #[.slice q n c] w fun e w' => e = .returned (.bool (((n : Nat) : Int) == 0)) ∧ w' = w := by
  go_enter Tryd.func13, Tryd.ntmps13
  go_wp2_with fail
  go_ret
  exact ⟨rfl, rfl⟩
set_option maxRecDepth 1000000 in
set_option maxHeartbeats 4000000 in
theorem indexFunc_any (t : List (List ByteArray)) (p : Option Addr) (c : Nat) (w : World) (h : RM w p t) (hl : t.length ≤ 70368744177664) :
    Calls Tryd.prog 21 #[.slice p t.length c, .func (.func 13) #[] #[]] w fun e w' => ∃ n : Int, e = .returned (.int .i64 n) ∧ Hid (decide (0 ≤ n) = t.any (fun r => r.isEmpty)) ∧ w' = w := by
  have H : Hid (RM w p t) := h
  have hl9 : (t.length : Int) ≤ 70368744177664 := by omega
  clear h hl
  go_enter Tryd.func21, Tryd.ntmps21
  go_upto_block 0 with fail
  go_wp2_with fail
  go_loopw [8] (fun s8 wr => ∃ i : Nat, s8 = .int .i64 (i : Int) ∧ i ≤ t.length ∧ w = wr ∧ Hid (∀ (j : Nat) (r : List ByteArray), j < i → t[j]? = some r → r.isEmpty = false)) (fun s8 _ => t.length - (intOf s8).toNat)
  case atStart => exact ⟨0, rfl, Nat.zero_le _, rfl, fun j _ hj => absurd hj (Nat.not_lt_zero _)⟩
  case round =>
    obtain ⟨i, rfl, hi, rfl, HN⟩ := hrel
    by_cases hlt : i < t.length
    · have hlt' : (i : Int) < (t.length : Int) := by omega
      have hi0 : (0 : Int) ≤ (i : Int) := by omega
      have hx : t[i]? = some t[i] := List.getElem?_eq_getElem hlt
      obtain ⟨r, er⟩ : ∃ r, t[i] = r := ⟨_, rfl⟩
      rw [er] at hx
      have HX : Hid (t[i]? = some r) := hx
      obtain ⟨g, o, q, k, rfl, c1, -⟩ := H.out.at hx
      by_cases hr0 : r.length = 0
      · have hE : Hid (Calls Tryd.prog 13 #[.slice q r.length k] w fun e w' => e = .returned (.bool true) ∧ w' = w) := by
          have := emptyRow_any q r.length k w
          rw [hr0] at this ⊢
          exact this
        have HR : Hid (decide (0 ≤ (i : Int)) = t.any (fun r => r.isEmpty)) := by
          show _ = _
          rw [decide_eq_true hi0]
          symm
          rw [List.any_eq_true]
          exact ⟨r, List.mem_of_getElem? HX.out, by rw [List.eq_nil_of_length_eq_zero hr0]; rfl⟩
        clear hx er hr0 HN
        go_wp2_with (go_at_call 13; with_reducible refine hE.out.mono ?_; rintro e w' ⟨rfl, hw⟩; rw [hw]; clear hw)
        exact bodyPost_ret (v := .int .i64 (i : Int)) (by simp [results, Tryd.results21, go_sem]) rfl ⟨_, rfl, HR, rfl⟩
      · have hE : Hid (Calls Tryd.prog 13 #[.slice q r.length k] w fun e w' => e = .returned (.bool false) ∧ w' = w) := by
          have := emptyRow_any q r.length k w
          rw [show ((((r.length : Nat) : Int)) == 0) = false from beq_eq_false_iff_ne.2 (by omega)] at this
          exact this
        have HN2 : Hid (∀ (j : Nat) (r : List ByteArray), j < i + 1 → t[j]? = some r → r.isEmpty = false) := fun j r' hj hr' => by
          by_cases e : j = i
          · subst e
            rw [HX.out] at hr'
            obtain rfl := Option.some.inj hr'
            cases r with
            | nil => exact absurd rfl hr0
            | cons _ _ => rfl
          · exact HN.out j r' (by omega) hr'
        clear hx er hr0 HN
        go_wp2_with (go_at_call 13; with_reducible refine hE.out.mono ?_; rintro e w' ⟨rfl, hw⟩; rw [hw]; clear hw)
        exact ⟨⟨i + 1, rfl, hlt, by first | rfl | trivial, HN2⟩, by simp [intOf]; omega⟩
    · have hlt' : ¬ (i : Int) < (t.length : Int) := by omega
      have HR : Hid (decide (0 ≤ (-1 : Int)) = t.any (fun r => r.isEmpty)) := by
        show _ = _
        have : t.any (fun r => r.isEmpty) = false := by
          rw [Bool.eq_false_iff]
          intro hc
          rw [List.any_eq_true] at hc
          obtain ⟨r, hr, h1⟩ := hc
          obtain ⟨j, hj⟩ := List.getElem?_of_mem hr
          rw [HN.out j r (by have := (List.getElem?_eq_some_iff.1 hj).1; omega) hj] at h1
          cases h1
        rw [this]
        decide
      clear HN
      go_wp2_with fail
      exact bodyPost_ret (v := .int .i64 (-1)) (by simp [results, Tryd.results21, go_sem]) rfl ⟨_, rfl, HR, rfl⟩
set_option maxRecDepth 1000000 in
set_option maxHeartbeats 4000000 in
theorem anyEmpty_any (t : List (List ByteArray)) (p : Option Addr) (c : Nat) (w : World) (h : RM w p t) (hl : t.length ≤ 70368744177664) :
    Calls Tryd.prog 12 #[.slice p t.length c, .func (.func 13) #[] #[]] w fun e w' => e = .returned (.bool (t.any (fun r => r.isEmpty))) ∧ w' = w := by
  have HI : Hid (Calls Tryd.prog 21 #[.slice p t.length c, .func (.func 13) #[] #[]] w fun e w' => ∃ n : Int, e = .returned (.int .i64 n) ∧ Hid (decide (0 ≤ n) = t.any (fun r => r.isEmpty)) ∧ w' = w) := indexFunc_any t p c w h hl
  clear h hl
  go_enter Tryd.func12, Tryd.ntmps12
  go_wp2_with (go_at_call 21; with_reducible refine HI.out.mono ?_; rintro e w' ⟨n, rfl, hO, hw⟩; rw [hw]; clear hw)
  go_ret
  exact ⟨by rw [← hO.out]; rfl, rfl⟩
end Go.Proofs.YtldmjipkmplhbaaDoor.fw
