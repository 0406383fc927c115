
/- A code taken apart: the program's readCode, walked at any text. Conditions: as each theorem says. -/
import Derived.Test.YtnelglmbckgbgaaGreatDoorFwa
import Derived.Test.YtnelglmbckgbgaaGreatDoorShg
import Derived.Lib.ConvBytes
import Derived.BigQuiet
namespace Go.Proofs.YtnelglmbckgbgaaGreatDoor.fw
open Go.RowKit Go.Sort
theorem txt_data (l : List UInt8) : (txt l).data.toList = l := by simp [txt]
theorem txt_len (l : List UInt8) : (txt l).size = l.length := rfl
theorem txt_ext (l : List UInt8) (i j : Nat) : (txt l).extract i j = txt ((l.take j).drop i) := by
  apply ByteArray.ext
  simp [txt, List.drop_take]
/-- A text cut at its first quote. -/
def splitQ : List UInt8 → Option (List UInt8 × List UInt8)
  | [] => none
  | c :: r => if c = 34 then some ([], r) else (splitQ r).map fun p => (c :: p.1, p.2)
theorem splitQ_some : ∀ (l a b : List UInt8), splitQ l = some (a, b) → l = a ++ 34 :: b ∧ 34 ∉ a ∧ Lib.indexByte l 34 = (a.length : Int)
  | [], a, b, h => by simp [splitQ] at h
  | c :: r, a, b, h => by
    unfold splitQ at h
    by_cases e : c = 34
    · rw [if_pos e] at h
      simp only [Option.some.injEq, Prod.mk.injEq] at h
      obtain ⟨rfl, rfl⟩ := h
      subst e
      exact ⟨rfl, by simp, by simp [Lib.indexByte]⟩
    · rw [if_neg e] at h
      cases h2 : splitQ r with
      | none => rw [h2] at h; simp at h
      | some p =>
        rw [h2] at h
        simp only [Option.map_some, Option.some.injEq, Prod.mk.injEq] at h
        obtain ⟨rfl, rfl⟩ := h
        obtain ⟨h3, h4, h5⟩ := splitQ_some r p.1 p.2 h2
        refine ⟨by rw [List.cons_append, ← h3], fun hm => by
          rcases List.mem_cons.1 hm with h6 | h6
          · exact e h6.symm
          · exact h4 h6, ?_⟩
        simp only [Lib.indexByte]
        rw [if_neg (by simpa using e), h5]
        have : ¬ ((p.1.length : Int) == -1) = true := by
          simp only [beq_iff_eq]
          omega
        rw [if_neg this]
        rfl
theorem splitQ_none : ∀ (l : List UInt8), splitQ l = none → Lib.indexByte l 34 = -1
  | [], _ => rfl
  | c :: r, h => by
    unfold splitQ at h
    by_cases e : c = 34
    · rw [if_pos e] at h; cases h
    · rw [if_neg e] at h
      have h2 : splitQ r = none := by
        cases h3 : splitQ r with
        | none => rfl
        | some p => rw [h3] at h; simp at h
      have h4 := splitQ_none r h2
      simp only [Lib.indexByte]
      rw [if_neg (by simpa using e), h4]
      rfl
theorem cp_yes (p r : List UInt8) (w : World) : Calls Tryz.prog 26 #[.string (txt (p ++ r)), .string (txt p)] w fun e w' => e = .returned (.tuple #[.string (txt r), .bool true]) ∧ w' = w := by
  refine (Tryz.strings_CutPrefix (txt (p ++ r)) (txt p) w).mono ?_
  rintro e w' ⟨rfl, rfl⟩
  rw [txt_data, txt_data]
  have h : Lib.hasPrefix (p ++ r) p = true := by simp [Lib.hasPrefix]
  unfold Lib.trimPrefix
  rw [h, if_pos rfl, List.drop_left]
  exact ⟨rfl, rfl⟩
theorem cp_no (p l : List UInt8) (h : Lib.hasPrefix l p = false) (w : World) : Calls Tryz.prog 26 #[.string (txt l), .string (txt p)] w fun e w' => e = .returned (.tuple #[.string (txt l), .bool false]) ∧ w' = w := by
  refine (Tryz.strings_CutPrefix (txt l) (txt p) w).mono ?_
  rintro e w' ⟨rfl, rfl⟩
  rw [txt_data, txt_data]
  unfold Lib.trimPrefix
  rw [h]
  exact ⟨rfl, rfl⟩
theorem pre_one {l : List UInt8} {c : UInt8} : Lib.hasPrefix l [c] = false ↔ l.head? ≠ some c := by
  cases l with
  | nil => simp [Lib.hasPrefix]
  | cons b r =>
    unfold Lib.hasPrefix
    simp only [List.isPrefixOf, Bool.and_true, List.head?_cons, ne_eq, Option.some.injEq, beq_eq_false_iff_ne]
    exact ⟨fun h e => h e.symm, fun h e => h e.symm⟩
/-- Nothing but draws. -/
def Dr (w w' : World) : Prop := ∃ n, w' = w.drewN n
theorem Dr.refl (w : World) : Dr w w := ⟨0, rfl⟩
theorem txt_nil : txt [] = ⟨#[]⟩ := rfl
theorem drewN_bw' (w : World) (m : Nat) : Bw w (w.drewN m) := ⟨rfl, rfl, rfl, Nat.le_refl _, fun _ _ => rfl⟩
set_option maxRecDepth 100000 in
theorem cut_yes (a b l : List UInt8) (hq : splitQ l = some (a, b)) (hl : l.length ≤ 100) (w : World) : Calls Tryz.prog 38 #[.string (txt l), .string ⟨#[34]⟩] w fun e w' => e = .returned (.tuple #[.string (txt a), .string (txt b), .bool true]) ∧ Dr w w' := by
  obtain ⟨h1, -, h2⟩ := splitQ_some l a b hq
  have hi := Tryz.stringslite_Index_one (txt l) 34 w
  rw [txt_data, h2] at hi
  have e1 : (txt l).extract 0 a.length = txt a := by rw [txt_ext, h1]; simp
  have e2 : (txt l).extract (a.length + 1) (txt l).size = txt b := by rw [txt_ext, txt_len, List.take_length, h1, ← List.drop_drop, List.drop_left]; rfl
  have hk : a.length + 1 ≤ (txt l).size := by rw [txt_len, h1]; simp
  have hk100 : (txt l).size ≤ 100 := hl
  clear hq h1 h2
  generalize txt l = s at *
  obtain ⟨k, hkk⟩ : ∃ k, a.length = k := ⟨_, rfl⟩
  rw [hkk] at hi e1 e2 hk
  generalize txt a = ta at *
  generalize txt b = tb at *
  clear hkk
  have inner : Calls Tryz.prog 51 #[.string s, .string ⟨#[34]⟩] w fun e w' => e = .returned (.tuple #[.string ta, .string tb, .bool true]) ∧ Dr w w' := by
    have hk0 : (k : Int) ≥ 0 := by omega
    have hlo : (0 : Int) ≤ (k : Int) := by omega
    have hk1 : (k : Int) ≤ (s.size : Int) := by omega
    have hk2 : (k : Int) + 1 ≤ (s.size : Int) := by omega
    have hk3 : k ≤ s.size := by omega
    have hk4 : (0 : Int) ≤ (k : Int) + 1 := by omega
    have hwr : wrap64 ((k : Int) + 1) = ((k + 1 : Nat) : Int) := by unfold wrap64; omega
    go_enter Tryz.func51, Tryz.ntmps51
    go_wp2_with fail
    refine hi.mono ?_
    rintro e w' ⟨rfl, rfl⟩
    go_wp2_with fail
    go_quiet (fail)
    go_wp2_with fail
    exact bodyPost_ret (v := .tuple #[_, _, _]) (by simp [results, Tryz.results51, go_sem]) rfl ⟨rfl, _, rfl⟩
  go_enter Tryz.func38, Tryz.ntmps38
  go_wp2_with fail
  refine inner.mono ?_
  rintro e w' ⟨rfl, hb⟩
  go_wp2_with fail
  exact bodyPost_ret (v := .tuple #[_, _, _]) (by simp [results, Tryz.results38, go_sem]) rfl ⟨rfl, hb⟩
set_option maxRecDepth 100000 in
theorem cut_no (l : List UInt8) (hq : splitQ l = none) (w : World) : Calls Tryz.prog 38 #[.string (txt l), .string ⟨#[34]⟩] w fun e w' => e = .returned (.tuple #[.string (txt l), .string ⟨#[]⟩, .bool false]) ∧ Dr w w' := by
  have hi := Tryz.stringslite_Index_one (txt l) 34 w
  rw [txt_data, splitQ_none l hq] at hi
  generalize txt l = s at *
  have inner : Calls Tryz.prog 51 #[.string s, .string ⟨#[34]⟩] w fun e w' => e = .returned (.tuple #[.string s, .string ⟨#[]⟩, .bool false]) ∧ Dr w w' := by
    go_enter Tryz.func51, Tryz.ntmps51
    go_wp2_with fail
    refine hi.mono ?_
    rintro e w' ⟨rfl, rfl⟩
    go_wp2_with fail
    exact bodyPost_ret (v := .tuple #[_, _, _]) (by simp [results, Tryz.results51, go_sem]) rfl ⟨rfl, Dr.refl _⟩
  go_enter Tryz.func38, Tryz.ntmps38
  go_wp2_with fail
  refine inner.mono ?_
  rintro e w' ⟨rfl, hb⟩
  go_wp2_with fail
  exact bodyPost_ret (v := .tuple #[_, _, _]) (by simp [results, Tryz.results38, go_sem]) rfl ⟨rfl, hb⟩
/-- What is between two quotes at the head of a text, and what follows. -/
def cqL (l : List UInt8) : List UInt8 × List UInt8 := if l.head? = some 34 then (splitQ l.tail).getD ([], l) else ([], l)
theorem head_cons {l : List UInt8} {c : UInt8} (h : l.head? = some c) : l = c :: l.tail := by
  cases l with
  | nil => cases h
  | cons b r => simp only [List.head?_cons, Option.some.injEq] at h; rw [h]; rfl
theorem cp_one (c : UInt8) (l : List UInt8) (h : l.head? = some c) (w : World) : Calls Tryz.prog 26 #[.string (txt l), .string ⟨#[c]⟩] w fun e w' => e = .returned (.tuple #[.string (txt l.tail), .bool true]) ∧ w' = w := by
  have := cp_yes [c] l.tail w
  rw [show [c] ++ l.tail = l from (head_cons h).symm] at this
  exact this
theorem cp_not (c : UInt8) (l : List UInt8) (h : l.head? ≠ some c) (w : World) : Calls Tryz.prog 26 #[.string (txt l), .string ⟨#[c]⟩] w fun e w' => e = .returned (.tuple #[.string (txt l), .bool false]) ∧ w' = w :=
  cp_no [c] l (pre_one.2 h) w
set_option maxRecDepth 100000 in
theorem cutQuoted_any (l : List UInt8) (hl : l.length ≤ 100) (w : World) : Calls Tryz.prog 25 #[.string (txt l)] w fun e w' => e = .returned (.tuple #[.string (txt (cqL l).1), .string (txt (cqL l).2)]) ∧ Dr w w' := by
  by_cases h : l.head? = some 34
  · have h1 := cp_one 34 l h w
    cases hq : splitQ l.tail with
    | some p =>
      have e1 : cqL l = p := by unfold cqL; rw [if_pos h, hq]; rfl
      rw [e1]
      have h2 := cut_yes p.1 p.2 l.tail hq (by simp; omega) w
      go_enter Tryz.func25, Tryz.ntmps25
      go_wp2_with fail
      refine h1.mono ?_
      rintro e w' ⟨rfl, rfl⟩
      go_wp2_with fail
      refine h2.mono ?_
      rintro e w2 ⟨rfl, hb⟩
      go_wp2_with fail
      exact bodyPost_ret (v := .tuple #[_, _]) (by simp [results, Tryz.results25, go_sem]) rfl ⟨rfl, hb⟩
    | none =>
      have e1 : cqL l = ([], l) := by unfold cqL; rw [if_pos h, hq]; rfl
      simp only [e1, txt_nil]
      have h2 := cut_no l.tail hq w
      go_enter Tryz.func25, Tryz.ntmps25
      go_wp2_with fail
      refine h1.mono ?_
      rintro e w' ⟨rfl, rfl⟩
      go_wp2_with fail
      refine h2.mono ?_
      rintro e w2 ⟨rfl, hb⟩
      go_wp2_with fail
      exact bodyPost_ret (v := .tuple #[_, _]) (by simp [results, Tryz.results25, go_sem]) rfl ⟨rfl, hb⟩
  · have e1 : cqL l = ([], l) := by unfold cqL; rw [if_neg h]
    simp only [e1, txt_nil]
    have h1 := cp_not 34 l h w
    go_enter Tryz.func25, Tryz.ntmps25
    go_wp2_with fail
    refine h1.mono ?_
    rintro e w' ⟨rfl, rfl⟩
    go_wp2_with fail
    exact bodyPost_ret (v := .tuple #[_, _]) (by simp [results, Tryz.results25, go_sem]) rfl ⟨rfl, Dr.refl _⟩
/-- How many zeros stand at the head of a text, and what follows. -/
def czL (l : List UInt8) : Nat × List UInt8 := (l.length - (l.dropWhile (· == 48)).length, l.dropWhile (· == 48))
theorem dropW_le (l : List UInt8) (p : UInt8 → Bool) : (l.dropWhile p).length ≤ l.length := by
  induction l with
  | nil => simp
  | cons a l ih => rw [List.dropWhile_cons]; split <;> simp; omega
set_option maxRecDepth 100000 in
theorem cutZeros_any (l : List UInt8) (hl : l.length ≤ 100) (w : World) : Calls Tryz.prog 27 #[.string (txt l)] w fun e w' => e = .returned (.tuple #[.int .i64 ((czL l).1 : Int), .string (txt (czL l).2)]) ∧ Dr w w' := by
  have h1 := Tryz.strings_TrimLeft_one (txt l) 48 (by decide) w
  rw [txt_data] at h1
  have hle := dropW_le l (· == 48)
  have e1 : ((l.length : Int) - ((Lib.trimLeftB l 48).length : Int)) = ((czL l).1 : Int) := by
    unfold czL Lib.trimLeftB
    show _ = ((l.length - (l.dropWhile (· == 48)).length : Nat) : Int)
    omega
  have e2 : (czL l).2 = Lib.trimLeftB l 48 := rfl
  have h1' : Calls Tryz.prog 40 #[.string (txt l), .string ⟨#[48]⟩] w fun e w' => e = .returned (.string (txt (Lib.trimLeftB l 48))) ∧ w' = w := h1
  have hs1 : (txt l).size = l.length := rfl
  have hs2 : (txt (Lib.trimLeftB l 48)).size = (Lib.trimLeftB l 48).length := rfl
  have hz : ((txt l).size : Int) - ((txt (Lib.trimLeftB l 48)).size : Int) = ((czL l).1 : Int) := e1
  have hz0 : (txt l).size ≤ 100 := hl
  have hz1 : (txt (Lib.trimLeftB l 48)).size ≤ 100 := by rw [hs2]; exact Nat.le_trans hle hl
  rw [e2]
  clear h1 e1 e2 hs1 hs2 hle
  generalize txt (Lib.trimLeftB l 48) = r at *
  generalize (czL l).1 = z at *
  generalize txt l = s at *
  rw [← hz]
  clear hz
  go_enter Tryz.func27, Tryz.ntmps27
  go_wp2_with fail
  refine h1'.mono ?_
  rintro e w' ⟨rfl, rfl⟩
  go_wp2_with fail
  exact bodyPost_ret (v := .tuple #[_, _]) (by simp [results, Tryz.results27, go_sem]) rfl ⟨rfl, Dr.refl _⟩
/-- The places behind a point. -/
def cpL (l : List UInt8) : Nat × List UInt8 := if l.head? = some 46 then (if 1 ≤ (czL l.tail).1 ∧ (czL l.tail).1 ≤ 6 then czL l.tail else (0, l)) else (0, l)
set_option maxRecDepth 100000 in
theorem cutPlaces_any (l : List UInt8) (hl : l.length ≤ 100) (w : World) : Calls Tryz.prog 28 #[.string (txt l)] w fun e w' => e = .returned (.tuple #[.int .i64 ((cpL l).1 : Int), .string (txt (cpL l).2)]) ∧ Dr w w' := by
  by_cases h : l.head? = some 46
  · have h1 := cp_one 46 l h w
    have h2 := cutZeros_any l.tail (by simp; omega)
    obtain ⟨z, hz⟩ : ∃ z, czL l.tail = z := ⟨_, rfl⟩
    by_cases hz1 : 1 ≤ z.1
    · have hz1' : (1 : Int) ≤ (z.1 : Int) := by omega
      by_cases hz6 : z.1 ≤ 6
      · have hz6' : (z.1 : Int) ≤ 6 := by omega
        have e1 : cpL l = z := by unfold cpL; rw [if_pos h, hz, if_pos ⟨hz1, hz6⟩]
        rw [e1]
        rw [hz] at h2
        clear hz e1
        go_enter Tryz.func28, Tryz.ntmps28
        go_wp2_with fail
        refine h1.mono ?_
        rintro e w' ⟨rfl, rfl⟩
        go_wp2_with fail
        refine (h2 _).mono ?_
        rintro e w2 ⟨rfl, hb⟩
        go_wp2_with fail
        exact bodyPost_ret (v := .tuple #[_, _]) (by simp [results, Tryz.results28, go_sem]) rfl ⟨rfl, hb⟩
      · have hz6' : ¬ (z.1 : Int) ≤ 6 := by omega
        have e1 : cpL l = (0, l) := by unfold cpL; rw [if_pos h, hz, if_neg (fun x => hz6 x.2)]
        rw [e1]
        rw [hz] at h2
        clear hz e1
        go_enter Tryz.func28, Tryz.ntmps28
        go_wp2_with fail
        refine h1.mono ?_
        rintro e w' ⟨rfl, rfl⟩
        go_wp2_with fail
        refine (h2 _).mono ?_
        rintro e w2 ⟨rfl, hb⟩
        go_wp2_with fail
        exact bodyPost_ret (v := .tuple #[_, _]) (by simp [results, Tryz.results28, go_sem]) rfl ⟨rfl, hb⟩
    · have hz1' : ¬ (1 : Int) ≤ (z.1 : Int) := by omega
      have e1 : cpL l = (0, l) := by unfold cpL; rw [if_pos h, hz, if_neg (fun x => hz1 x.1)]
      rw [e1]
      rw [hz] at h2
      clear hz e1
      go_enter Tryz.func28, Tryz.ntmps28
      go_wp2_with fail
      refine h1.mono ?_
      rintro e w' ⟨rfl, rfl⟩
      go_wp2_with fail
      refine (h2 _).mono ?_
      rintro e w2 ⟨rfl, hb⟩
      go_wp2_with fail
      exact bodyPost_ret (v := .tuple #[_, _]) (by simp [results, Tryz.results28, go_sem]) rfl ⟨rfl, hb⟩
  · have e1 : cpL l = (0, l) := by unfold cpL; rw [if_neg h]
    rw [e1]
    have h1 := cp_not 46 l h w
    go_enter Tryz.func28, Tryz.ntmps28
    go_wp2_with fail
    refine h1.mono ?_
    rintro e w' ⟨rfl, rfl⟩
    go_wp2_with fail
    exact bodyPost_ret (v := .tuple #[_, _]) (by simp [results, Tryz.results28, go_sem]) rfl ⟨rfl, Dr.refl _⟩
/-- What stands behind all. -/
def cbL (l : List UInt8) : List UInt8 × List UInt8 := if l.head? = some 37 then ([37], l.tail) else cqL l
set_option maxRecDepth 100000 in
theorem cutBehind_any (l : List UInt8) (hl : l.length ≤ 100) (w : World) : Calls Tryz.prog 29 #[.string (txt l)] w fun e w' => e = .returned (.tuple #[.string (txt (cbL l).1), .string (txt (cbL l).2)]) ∧ Dr w w' := by
  by_cases h : l.head? = some 37
  · have h1 := cp_one 37 l h w
    have e1 : cbL l = ([37], l.tail) := by unfold cbL; rw [if_pos h]
    simp only [e1, show txt [37] = ⟨#[37]⟩ from rfl]
    go_enter Tryz.func29, Tryz.ntmps29
    go_wp2_with fail
    refine h1.mono ?_
    rintro e w' ⟨rfl, rfl⟩
    go_wp2_with fail
    exact bodyPost_ret (v := .tuple #[_, _]) (by simp [results, Tryz.results29, go_sem]) rfl ⟨rfl, Dr.refl _⟩
  · have h1 := cp_not 37 l h w
    have h2 := cutQuoted_any l hl w
    have e1 : cbL l = cqL l := by unfold cbL; rw [if_neg h]
    rw [e1]
    go_enter Tryz.func29, Tryz.ntmps29
    go_wp2_with fail
    refine h1.mono ?_
    rintro e w' ⟨rfl, rfl⟩
    go_wp2_with fail
    refine h2.mono ?_
    rintro e w2 ⟨rfl, hb⟩
    go_wp2_with fail
    exact bodyPost_ret (v := .tuple #[_, _]) (by simp [results, Tryz.results29, go_sem]) rfl ⟨rfl, hb⟩
end Go.Proofs.YtnelglmbckgbgaaGreatDoor.fw
