
/- Marks doubled and taken away again: the library's ReplaceAll in plain words; texts cut. Nothing is walked here. -/
import Derived.Test.YtdinmgepdeigjaaGreatDoorCwa
import Derived.Test.YtdinmgepdeigjaaGreatDoorFna
namespace Go.Proofs.YtdinmgepdeigjaaGreatDoor.fw
open Go.RowKit Go.Sort
theorem replAll_is {p : List UInt8} (hp : p ≠ []) (b s : List UInt8) : Lib.replaceAll s p b = (cntL p b s).2 := by
  rw [← repl_all hp b s]
  have e : Lib.count s p = (cntL p b s).1 := count_is hp b s.length s (Nat.le_refl _)
  unfold Lib.replaceAll Lib.replace Lib.replaceNum
  rw [← e]
  have e1 : ((-1 : Int) < 0 ∨ (Lib.count s p : Int) < -1) := Or.inl (by decide)
  have e2 : ¬ ((Lib.count s p : Int) < 0 ∨ (Lib.count s p : Int) < (Lib.count s p : Int)) := by omega
  rw [if_pos e1, if_neg e2, Int.toNat_natCast]
theorem cntL_cons (p b : List UInt8) (c : UInt8) (s : List UInt8) : cntL p b (c :: s) = if p.isPrefixOf (c :: s) = true ∧ p ≠ [] then ((cntL p b ((c :: s).drop p.length)).1 + 1, b ++ (cntL p b ((c :: s).drop p.length)).2) else ((cntL p b s).1, c :: (cntL p b s).2) := by
  rw [cntL]
  by_cases h : p.isPrefixOf (c :: s) = true ∧ p ≠ []
  · rw [dif_pos h, if_pos h]
  · rw [dif_neg h, if_neg h]
theorem repl_esq (f : List UInt8) : Lib.replaceAll f [34] [34, 34] = esq f := by
  rw [replAll_is (by decide)]
  induction f with
  | nil => rw [cnt_nil]; rfl
  | cons c f ih =>
    have e : esq (c :: f) = (if c = 34 then [34, 34] else [c]) ++ esq f := by simp [esq]
    rw [cntL_cons, e]
    by_cases hc : c = 34
    · subst hc
      rw [if_pos ⟨by simp, by decide⟩, if_pos rfl]
      show [34, 34] ++ (cntL [34] [34, 34] f).2 = _
      rw [ih]
    · rw [if_neg (fun h => hc (by have := h.1; simp at this; exact this.symm)), if_neg hc, ih]
      rfl
theorem repl_back (f : List UInt8) : Lib.replaceAll (esq f) [34, 34] [34] = f := by
  rw [replAll_is (by decide)]
  induction f with
  | nil => show (cntL [34, 34] [34] []).2 = []; rw [cnt_nil]
  | cons c f ih =>
    have e : esq (c :: f) = (if c = 34 then [34, 34] else [c]) ++ esq f := by simp [esq]
    rw [e]
    by_cases hc : c = 34
    · subst hc
      rw [if_pos rfl]
      show (cntL [34, 34] [34] (34 :: 34 :: esq f)).2 = _
      rw [cntL_cons, if_pos ⟨by simp, by decide⟩]
      show [34] ++ (cntL [34, 34] [34] (esq f)).2 = _
      rw [ih]
      rfl
    · rw [if_neg hc]
      show (cntL [34, 34] [34] (c :: esq f)).2 = _
      rw [cntL_cons, if_neg (fun h => hc (by have := h.1; simp at this; exact this.1.symm)), ih]
theorem ext_list (s : ByteArray) (a b : Nat) : (s.extract a b).toList = (s.toList.drop a).take (b - a) := by
  rw [ByteArray.toList_eq, ByteArray.toList_eq, ByteArray.data_extract, Array.toList_extract, List.extract_eq_take_drop]
theorem ext_drop (s : ByteArray) (a : Nat) : (s.extract a s.size).toList = s.toList.drop a := by
  rw [ext_list, List.take_of_length_le]
  rw [List.length_drop, ByteArray.toList_eq, Array.length_toList]
  exact Nat.le_refl _
theorem ext_take (s : ByteArray) (a : Nat) : (s.extract 0 a).toList = s.toList.take a := by
  rw [ext_list, List.drop_zero, Nat.sub_zero]
theorem txt_list (s : ByteArray) : txt s.toList = s := by
  obtain ⟨⟨l⟩⟩ := s
  unfold txt
  rw [ByteArray.toList_eq]
theorem data_list (s : ByteArray) : s.data.toList = s.toList := (ByteArray.toList_eq s).symm
theorem count_le' (s p : ByteArray) : Lib.countB s p ≤ s.size + 1 := by
  have h := Lib.count_le s.data.toList p.data.toList
  have e : s.data.toList.length = s.size := by simp
  have e2 : Lib.countB s p = Lib.count s.data.toList p.data.toList := rfl
  omega
/-- What ends a field, as a text. -/
def enZ (L : List UInt8) : ByteArray := ⟨(L.take (enL L)).toArray⟩
theorem en_cases (L : List UInt8) : (enZ L = nul ∧ enL L = 0) ∨ (enZ L = ⟨#[44]⟩ ∧ enL L = 1 ∧ L[0]? = some 44) ∨ (enZ L = ⟨#[10]⟩ ∧ enL L = 1 ∧ L[0]? = some 10) ∨ (enZ L = ⟨#[13, 10]⟩ ∧ enL L = 2 ∧ L[0]? = some 13 ∧ L[1]? = some 10) := by
  unfold enZ
  unfold enL
  split
  · exact .inr (.inl ⟨rfl, rfl, rfl⟩)
  · exact .inr (.inr (.inl ⟨rfl, rfl, rfl⟩))
  · exact .inr (.inr (.inr ⟨rfl, rfl, rfl, rfl⟩))
  · exact .inl ⟨rfl, rfl⟩
/-- How the three tests tell it. -/
theorem en_tests (L : List UInt8) : (Lib.hasPrefix L [44] = true → enZ L = ⟨#[44]⟩) ∧ (Lib.hasPrefix L [10] = true → enZ L = ⟨#[10]⟩) ∧ (Lib.hasPrefix L [13, 10] = true → enZ L = ⟨#[13, 10]⟩) ∧ (Lib.hasPrefix L [44] = false → Lib.hasPrefix L [10] = false → Lib.hasPrefix L [13, 10] = false → enZ L = nul) := by
  unfold Lib.hasPrefix
  match L with
  | [] => exact ⟨by simp, by simp, by simp, fun _ _ _ => rfl⟩
  | [c] =>
    refine ⟨fun h => ?_, fun h => ?_, fun h => by simp at h, fun h1 h2 _ => ?_⟩
    · obtain rfl : 44 = c := by simpa using h
      rfl
    · obtain rfl : 10 = c := by simpa using h
      rfl
    · rcases en_cases [c] with h | h | h | h
      · exact h.1
      · have := h.2.2; simp at this; subst this; simp at h1
      · have := h.2.2; simp at this; subst this; simp at h2
      · have := h.2.2.2; simp at this
  | c :: d :: r =>
    refine ⟨fun h => ?_, fun h => ?_, fun h => ?_, fun h1 h2 h3 => ?_⟩
    · obtain rfl : 44 = c := by simpa using h
      rfl
    · obtain rfl : 10 = c := by simpa using h
      rfl
    · obtain ⟨rfl, rfl⟩ : 13 = c ∧ 10 = d := by simpa using h
      rfl
    · rcases en_cases (c :: d :: r) with h | h | h | h
      · exact h.1
      · have := h.2.2; simp at this; subst this; simp at h1
      · have := h.2.2; simp at this; subst this; simp at h2
      · have := h.2.2; simp at this; obtain ⟨rfl, rfl⟩ := this; simp at h3
theorem pre34 (s : ByteArray) : Lib.hasPrefix s.data.toList [34] = decide (s.toList[0]? = some 34) := by
  rw [data_list]
  unfold Lib.hasPrefix
  cases s.toList with
  | nil => rfl
  | cons c r =>
    by_cases h : c = 34
    · subst h; simp
    · have h' : ¬ 34 = c := fun e => h e.symm
      have e1 : (34 == c) = false := beq_eq_false_iff_ne.2 h'
      simp [h, List.isPrefixOf, e1]
end Go.Proofs.YtdinmgepdeigjaaGreatDoor.fw
