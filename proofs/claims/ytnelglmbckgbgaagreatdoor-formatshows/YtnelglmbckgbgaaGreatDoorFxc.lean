
/- The program's zerosAhead and commasWithin, walked. Conditions: as each theorem says. -/
import Derived.Test.YtnelglmbckgbgaaGreatDoorFxb
import Derived.Test.YtnelglmbckgbgaaGreatDoorShf
import Derived.Test.YtnelglmbckgbgaaGreatDoorShb
namespace Go.Proofs.YtnelglmbckgbgaaGreatDoor.fw
open Go.RowKit Go.Sort
theorem repeat_c (c : UInt8) (n : Nat) : Lib.repeatL [c] n = List.replicate n c := by
  induction n with
  | zero => rfl
  | succ n ih => simp only [Lib.repeatL] at ih ⊢; simp [List.replicate_succ, ih]
theorem rep_c (c : UInt8) (n : Nat) (w : World) (h1 : n ≤ 1000) :
    Calls Tryz.prog 47 #[.string ⟨#[c]⟩, .int .i64 (n : Int)] w fun e w' => e = .returned (.string (txt (List.replicate n c))) ∧ Bw w w' := by
  refine (Tryz.strings_Repeat ⟨#[c]⟩ n w (by omega) (by show 1 * _ ≤ _; omega)).mono ?_
  rintro e w' ⟨rfl, hb⟩
  refine ⟨?_, hb⟩
  have e1 : Lib.repeatL (⟨#[c]⟩ : ByteArray).data.toList n = List.replicate n c := repeat_c _ _
  rw [e1]
  rfl
theorem txt_app (a b : List UInt8) : txt a ++ txt b = txt (a ++ b) := by
  unfold txt
  apply ByteArray.ext
  simp
set_option maxRecDepth 100000 in
theorem zerosAhead_any (l : List UInt8) (m : Nat) (w : World) (hl : l.length ≤ 100) (hm : m ≤ 100) :
    Calls Tryz.prog 34 #[.string (txt l), .int .i64 (m : Int)] w fun e w' => e = .returned (.string (txt (List.replicate (m - l.length) 48 ++ l))) ∧ Bw w w' := by
  have h1 := rep_c 48 (m - l.length) w (by omega)
  have hmax : max 0 ((m : Int) - ((txt l).size : Int)) = ((m - l.length : Nat) : Int) := by rw [txt_len]; omega
  have hsz : ¬ 9223372036854775807 < (txt (List.replicate (m - l.length) (48 : UInt8))).size + (txt l).size := by rw [txt_len, txt_len]; simp; omega
  have hs : (txt l).size ≤ 100 := hl
  rw [← txt_app]
  generalize txt (List.replicate (m - l.length) (48 : UInt8)) = z at *
  generalize m - l.length = d at *
  generalize txt l = s at *
  go_enter Tryz.func34, Tryz.ntmps34
  go_wp2_with fail
  refine h1.mono ?_
  rintro e w' ⟨rfl, hb⟩
  go_wp2_with fail
  go_ret
  exact ⟨rfl, hb⟩
/-- Commas between each three digits, from the right. -/
def cs : Bool → List UInt8 → List UInt8
  | _, [] => []
  | f, c :: r => (if f = false ∧ (r.length + 1) % 3 = 0 then [44] else []) ++ c :: cs false r
theorem cs_drop {l : List UInt8} {i : Nat} {b : UInt8} (h : l[i]? = some b) (f : Bool) : cs f (l.drop i) = (if f = false ∧ (l.length - i) % 3 = 0 then [44] else []) ++ b :: cs false (l.drop (i + 1)) := by
  have hi : i < l.length := (List.getElem?_eq_some_iff.1 h).1
  have e : l.drop i = b :: l.drop (i + 1) := by
    rw [List.drop_eq_getElem_cons hi]
    congr 1
    exact (List.getElem?_eq_some_iff.1 h).2
  rw [e]
  have e2 : (l.drop (i + 1)).length + 1 = l.length - i := by rw [List.length_drop]; omega
  simp only [cs, e2]
theorem cs_len : ∀ (f : Bool) (l : List UInt8), (cs f l).length ≤ 2 * l.length
  | _, [] => by simp [cs]
  | f, c :: r => by
    have := cs_len false r
    simp only [cs]
    split <;> simp <;> omega
/-- How far the digits are written. -/
structure CW (l : List UInt8) (w : World) (i : Nat) (wr : World) : Prop where
  ex : ∃ B : List UInt8, Lib.IsBuilder 93 5 w.heap.size w.heap.size (Lib.byteCells B) wr ∧ B ++ cs (decide (i = 0)) (l.drop i) = cs true l ∧ B.length ≤ 2 * i
  below : Bw w wr
theorem cw_start (l : List UInt8) (w : World) : CW l w 0 (w.alloc (.cells #[.pointer none, .slice none 0 0] 93)) :=
  ⟨⟨[], .inl ⟨Nat.le_refl _, .slice none 0 0, heap_alloc_new w _, ⟨rfl, .inl ⟨rfl, rfl⟩⟩, by simp [Value.ownBlock]⟩, by simp, by simp⟩, Bw.al _ _⟩
set_option maxRecDepth 100000 in
set_option maxHeartbeats 4000000 in
theorem commas_any (l : List UInt8) (w : World) (hl : l.length ≤ 100) :
    Calls Tryz.prog 35 #[.string (txt l)] w fun e w' => e = .returned (.string (txt (cs true l))) ∧ Bw w w' := by
  have HS : Hid ((txt l).size = l.length) := rfl
  have HAT : Hid (∀ i (h : i < (txt l).size), l[i]? = some (txt l)[i]) := fun i h => by
    have h2 : i < l.length := h
    rw [List.getElem?_eq_getElem h2]
    rfl
  have HC0 := cw_start l w
  obtain ⟨s, hss⟩ : ∃ s, txt l = s := ⟨_, rfl⟩
  rw [hss] at HS HAT ⊢
  clear hss
  go_enter Tryz.func35, Tryz.ntmps35
  go_wp2_with fail
  generalize (w.alloc (.cells #[.pointer none, .slice none 0 0] 93)) = w1 at *
  go_loopw [7] (fun s7 wr => ∃ (i : Nat), s7 = .int .i64 (i : Int) ∧ i ≤ s.size ∧ Hid (CW l w i wr)) (fun s7 _ => s.size - (intOf s7).toNat)
  case atStart => exact ⟨0, rfl, Nat.zero_le _, HC0⟩
  case round =>
    obtain ⟨i, rfl, hi, HC⟩ := hrel
    by_cases hlt : i < s.size
    · have hlt' : (i : Int) < (s.size : Int) := by omega
      have hi0 : (0 : Int) ≤ (i : Int) := by omega
      have hat := HAT.out i hlt
      obtain ⟨⟨B, hB, hE, hBl⟩, hbw⟩ := HC.out
      rw [cs_drop hat, ← HS.out] at hE
      have hsl : s.size ≤ 100 := by rw [HS.out]; exact hl
      by_cases h0 : i = 0
      · have h0' : ¬ (i : Int) > 0 := by omega
        have e1 : B ++ [s[i]] ++ cs (decide (i + 1 = 0)) (l.drop (i + 1)) = cs true l := by rw [← hE, if_neg (fun x => by simp [h0] at x)]; simp
        have h9 := Tryz.Builder_WriteByte w.heap.size w.heap.size (Lib.byteCells B) (s[i].toNat : Int) wr hB (by rw [Lib.byteCells_length]; omega) hbw.size
        clear hE hB hat h0
        go_wp2_with fail
        refine h9.mono ?_
        rintro e w2 ⟨rfl, hB2, hb2⟩
        go_wp2_with fail
        exact ⟨⟨i + 1, rfl, hlt, ⟨⟨B ++ [s[i]], .inr (by rw [Lib.byteCells_append]; exact hB2), e1, by simp; omega⟩, hbw.trans hb2⟩⟩, by simp [intOf]; omega⟩
      · have h0' : (i : Int) > 0 := by omega
        have er : ((s.size : Int) - (i : Int)).tmod 3 = (((s.size - i) % 3 : Nat) : Int) := by rw [Int.tmod_eq_emod_of_nonneg (by omega)]; omega
        by_cases h3 : (s.size - i) % 3 = 0
        · have er0 : ((s.size : Int) - (i : Int)).tmod 3 = 0 := by rw [er, h3]; rfl
          have e1 : B ++ [44] ++ [s[i]] ++ cs (decide (i + 1 = 0)) (l.drop (i + 1)) = cs true l := by rw [← hE, if_pos ⟨by simpa using h0, h3⟩]; simp
          have h9 := Tryz.Builder_WriteByte w.heap.size w.heap.size (Lib.byteCells B) 44 wr hB (by rw [Lib.byteCells_length]; omega) hbw.size
          clear hE hB er hat h0
          go_wp2_with fail
          refine h9.mono ?_
          rintro e w2 ⟨rfl, hB2, hb2⟩
          have hB3 : Lib.IsBuilder 93 5 w.heap.size w.heap.size (Lib.byteCells (B ++ [44])) w2 := .inr (by rw [Lib.byteCells_append]; exact hB2)
          have hbw2 : Bw w w2 := hbw.trans hb2
          have h8 := Tryz.Builder_WriteByte w.heap.size w.heap.size (Lib.byteCells (B ++ [44])) (s[i].toNat : Int) w2 hB3 (by rw [Lib.byteCells_length]; simp; omega) hbw2.size
          go_wp2_with fail
          refine h8.mono ?_
          rintro e w3 ⟨rfl, hB4, hb4⟩
          go_wp2_with fail
          exact ⟨⟨i + 1, rfl, hlt, ⟨⟨B ++ [44] ++ [s[i]], .inr (by rw [Lib.byteCells_append (B ++ [44])]; exact hB4), e1, by simp; omega⟩, hbw2.trans hb4⟩⟩, by simp [intOf]; omega⟩
        · have er0 : ((((s.size : Int) - (i : Int)).tmod 3) == 0) = false := by rw [er]; simp; omega
          have e1 : B ++ [s[i]] ++ cs (decide (i + 1 = 0)) (l.drop (i + 1)) = cs true l := by rw [← hE, if_neg (fun x => h3 x.2)]; simp
          have h9 := Tryz.Builder_WriteByte w.heap.size w.heap.size (Lib.byteCells B) (s[i].toNat : Int) wr hB (by rw [Lib.byteCells_length]; omega) hbw.size
          clear hE hB er hat h0
          go_wp2_with fail
          refine h9.mono ?_
          rintro e w2 ⟨rfl, hB2, hb2⟩
          go_wp2_with fail
          exact ⟨⟨i + 1, rfl, hlt, ⟨⟨B ++ [s[i]], .inr (by rw [Lib.byteCells_append]; exact hB2), e1, by simp; omega⟩, hbw.trans hb2⟩⟩, by simp [intOf]; omega⟩
    · have hlt' : ¬ (i : Int) < (s.size : Int) := by omega
      obtain ⟨⟨B, hB, hE, hBl⟩, hbw⟩ := HC.out
      have hend : l.drop i = [] := by rw [List.drop_eq_nil_iff, ← HS.out]; omega
      have hBe : B = cs true l := by rw [← hE, hend]; simp [cs]
      have h9 := Tryz.Builder_String_any w.heap.size w.heap.size B wr hB hbw.size
      go_wp2_with fail
      refine h9.mono ?_
      rintro e w' ⟨rfl, hb⟩
      go_wp2_with fail
      go_ret
      exact ⟨by rw [← hBe]; rfl, hbw.trans hb⟩
end Go.Proofs.YtnelglmbckgbgaaGreatDoor.fw
