/- Read, as the reference has it, reads any text as the program does; and so the law ValueReads returns true. Conditions: the text has at most 2^47 bytes; the package variables hold what the program's text lays ('Env'). -/
import Derived.Test.YtgoadofnfaidcaaGreatDoorRef
import Derived.Test.YtgoadofnfaidcaaGreatDoorBackMath
namespace Go.Proofs.YtgoadofnfaidcaaGreatDoor
open Go.RowKit
theorem kept3 (w : World) (b : Nat) (x y z x' y' z' : Value) (o : Obj) (c0 : w.cell? ⟨b, 0, none⟩ = some x') (c1 : w.cell? ⟨b, 1, none⟩ = some y') (c2 : w.cell? ⟨b, 2, none⟩ = some z') :
    ((((w.setCell ⟨b, 0, none⟩ x).setCell ⟨b, 1, none⟩ y).setCell ⟨b, 2, none⟩ z).alloc o).cell? ⟨b, 0, none⟩ = some x ∧ ((((w.setCell ⟨b, 0, none⟩ x).setCell ⟨b, 1, none⟩ y).setCell ⟨b, 2, none⟩ z).alloc o).cell? ⟨b, 1, none⟩ = some y ∧ ((((w.setCell ⟨b, 0, none⟩ x).setCell ⟨b, 1, none⟩ y).setCell ⟨b, 2, none⟩ z).alloc o).cell? ⟨b, 2, none⟩ = some z := by
  refine ⟨?_, ?_, ?_⟩
  · rw [World.cell?_alloc_some _ _ _ (by simp [go_sem, c0])]; simp [go_sem, c0]
  · rw [World.cell?_alloc_some _ _ _ (by simp [go_sem, c1])]; simp [go_sem, c1]
  · rw [World.cell?_alloc_some _ _ _ (by simp [go_sem, c2])]; simp [go_sem, c2]
/-- What Named answers. -/
def NamedIs (s : ByteArray) (k n : Int) (ok : Bool) : Prop := ∀ w, Calls Tryz.prog 61 #[.string s] w fun e w' => e = .returned (.tuple #[V k n nul, .bool ok]) ∧ Below w.heap.size w w'
/-- What Whole answers. -/
def WholeIs (s : ByteArray) (n : Int) (ok : Bool) : Prop := ∀ w, Calls Tryz.prog 60 #[.string s, .bool true] w fun e w' => e = .returned (.tuple #[.int .i64 n, .bool ok]) ∧ Below w.heap.size w w'
set_option maxHeartbeats 1000000 in
theorem rread_empty (s : ByteArray) (w : World) (h0 : s.toList.isEmpty = true) :
    Calls Tryz.prog 35 #[.string s] w fun e w' => e = .returned (V 0 0 nul) ∧ Below w.heap.size w w' := by
  go_enter Tryz.func35, Tryz.ntmps35
  go_wp2
  exact bodyPost_ret (v := V 0 0 nul) (by simp [results, Tryz.results35, go_sem]) rfl ⟨rfl, by (repeat (first | exact Below.refl _ _ | assumption | (refine Below.setCell ?_ (by first | omega | (simp <;> omega)) _) | (refine Below.alloc ?_ (by first | omega | (simp <;> omega)) _) | (refine Below.drew ?_) | (refine Below.trans ?_ (Below.mono (by assumption) (by first | omega | (simp <;> omega))))))⟩
set_option maxRecDepth 100000 in
set_option maxHeartbeats 1000000 in
theorem rread_num (s : ByteArray) (w : World) (h0 : s.toList.isEmpty = false) (n : Int) (hw : WholeIs s n true) :
    Calls Tryz.prog 35 #[.string s] w fun e w' => e = .returned (V 1 n nul) ∧ Below w.heap.size w w' := by
  have hC := Cell3.start w 23
  go_enter Tryz.func35, Tryz.ntmps35
  go_wp2_with fail
  refine (hw _).mono ?_
  rintro e w1 ⟨rfl, b1⟩
  replace hC := hC.next b1
  go_wp2_with fail
  refine (rnum_any _ _).mono ?_
  rintro e w2 ⟨rfl, b2⟩
  replace hC := hC.next b2
  obtain ⟨⟨_, hf⟩, ⟨_, c0, c1, c2⟩, hB, hle⟩ := hC
  go_wp2_with fail
  exact bodyPost_ret (v := V 1 n nul) (by simp [results, Tryz.results35, go_sem, c0, c1, c2]) rfl ⟨rfl, by (repeat (first | exact Below.refl _ _ | assumption | (refine Below.setCell ?_ (by first | omega | (simp <;> omega)) _) | (refine Below.alloc ?_ (by first | omega | (simp <;> omega)) _) | (refine Below.drew ?_) | (refine Below.trans ?_ (Below.mono (by assumption) (by first | omega | (simp <;> omega))))))⟩
set_option maxRecDepth 100000 in
set_option maxHeartbeats 1000000 in
theorem rread_named (s : ByteArray) (w : World) (h0 : s.toList.isEmpty = false) (k n : Int) (hw : WholeIs s 0 false) (hn : NamedIs s k n true) :
    Calls Tryz.prog 35 #[.string s] w fun e w' => e = .returned (V k n nul) ∧ Below w.heap.size w w' := by
  have hC := Cell3.start w 23
  go_enter Tryz.func35, Tryz.ntmps35
  go_wp2_with fail
  refine (hw _).mono ?_
  rintro e w1 ⟨rfl, b1⟩
  replace hC := hC.next b1
  go_wp2_with fail
  refine (hn _).mono ?_
  rintro e w2 ⟨rfl, b2⟩
  replace hC := hC.next b2
  obtain ⟨⟨lt6, hf⟩, ⟨_, c0, c1, c2⟩, hB, hle⟩ := hC
  go_wp2_with fail
  exact bodyPost_ret (v := V k n nul) (by simp [results, Tryz.results35, go_sem, (kept3 w2 w.heap.size (.int .i64 k) (.int .i64 n) (.string nul) _ _ _ (.cells #[.int .i64 k, .int .i64 n, .string nul] 23) c0 c1 c2)]) rfl ⟨rfl, by (repeat (first | exact Below.refl _ _ | assumption | (refine Below.setCell ?_ (by first | omega | (simp <;> omega)) _) | (refine Below.alloc ?_ (by first | omega | (simp <;> omega)) _) | (refine Below.drew ?_) | (refine Below.trans ?_ (Below.mono (by assumption) (by first | omega | (simp <;> omega))))))⟩
set_option maxRecDepth 100000 in
set_option maxHeartbeats 1000000 in
theorem rread_long (s : ByteArray) (w : World) (h0 : s.toList.isEmpty = false) (hl : (200 : Int) < (s.size : Int)) (hw : WholeIs s 0 false) (hn : NamedIs s 0 0 false) :
    Calls Tryz.prog 35 #[.string s] w fun e w' => e = .returned (V 4 2 nul) ∧ Below w.heap.size w w' := by
  have hC := Cell3.start w 23
  go_enter Tryz.func35, Tryz.ntmps35
  go_wp2_with fail
  refine (hw _).mono ?_
  rintro e w1 ⟨rfl, b1⟩
  replace hC := hC.next b1
  go_wp2_with fail
  refine (hn _).mono ?_
  rintro e w2 ⟨rfl, b2⟩
  replace hC := hC.next b2
  go_wp2_with fail
  refine (rbad_any _ _).mono ?_
  rintro e w3 ⟨rfl, b3⟩
  replace hC := hC.next ((Below.refl _ _).alloc (Nat.le_refl _) (.cells #[.int .i64 0, .int .i64 0, .string nul] 23))
  replace hC := hC.next b3
  obtain ⟨⟨_, hf⟩, ⟨_, c0, c1, c2⟩, hB, hle⟩ := hC
  go_wp2_with fail
  exact bodyPost_ret (v := V 4 2 nul) (by simp [results, Tryz.results35, go_sem, c0, c1, c2]) rfl ⟨rfl, by (repeat (first | exact Below.refl _ _ | assumption | (refine Below.setCell ?_ (by first | omega | (simp <;> omega)) _) | (refine Below.alloc ?_ (by first | omega | (simp <;> omega)) _) | (refine Below.drew ?_) | (refine Below.trans ?_ (Below.mono (by assumption) (by first | omega | (simp <;> omega))))))⟩
set_option maxRecDepth 100000 in
set_option maxHeartbeats 1000000 in
theorem rread_text (s : ByteArray) (w : World) (h0 : s.toList.isEmpty = false) (hl : (s.size : Int) ≤ 200) (hw : WholeIs s 0 false) (hn : NamedIs s 0 0 false) :
    Calls Tryz.prog 35 #[.string s] w fun e w' => e = .returned (V 2 0 s) ∧ Below w.heap.size w w' := by
  have hC := Cell3.start w 23
  go_enter Tryz.func35, Tryz.ntmps35
  go_wp2_with fail
  refine (hw _).mono ?_
  rintro e w1 ⟨rfl, b1⟩
  replace hC := hC.next b1
  go_wp2_with fail
  refine (hn _).mono ?_
  rintro e w2 ⟨rfl, b2⟩
  replace hC := hC.next b2
  go_wp2_with fail
  refine (rtxt_any _ _).mono ?_
  rintro e w3 ⟨rfl, b3⟩
  replace hC := hC.next ((Below.refl _ _).alloc (Nat.le_refl _) (.cells #[.int .i64 0, .int .i64 0, .string nul] 23))
  replace hC := hC.next b3
  obtain ⟨⟨_, hf⟩, ⟨_, c0, c1, c2⟩, hB, hle⟩ := hC
  go_wp2_with fail
  exact bodyPost_ret (v := V 2 0 s) (by simp [results, Tryz.results35, go_sem, c0, c1, c2]) rfl ⟨rfl, by (repeat (first | exact Below.refl _ _ | assumption | (refine Below.setCell ?_ (by first | omega | (simp <;> omega)) _) | (refine Below.alloc ?_ (by first | omega | (simp <;> omega)) _) | (refine Below.drew ?_) | (refine Below.trans ?_ (Below.mono (by assumption) (by first | omega | (simp <;> omega))))))⟩
theorem size_of_eq {s : ByteArray} {l : List UInt8} (h : (s.toList == l) = true) : s.size = l.length := by
  rw [beq_iff_eq, ByteArray.toList_eq] at h
  rw [← h]
  simp
theorem rread_any (s : ByteArray) (w : World) (hs : s.size ≤ 140737488355328) :
    Calls Tryz.prog 35 #[.string s] w fun e w' => e = .returned (V (rd s).1 (rd s).2.1 (rd s).2.2) ∧ Below w.heap.size w w' := by
  unfold rd
  by_cases h0 : s.toList.isEmpty = true
  · rw [if_pos h0]; exact rread_empty s w h0
  rw [if_neg h0]
  rw [Bool.not_eq_true] at h0
  have hwh := fun w => whole_any s w hs h0
  rw [whole_num s] at hwh
  cases hn : numOf s with
  | some v =>
    rw [hn] at hwh
    obtain ⟨ha, hi⟩ := numOf_some hn
    obtain ⟨b1, b2⟩ := atoi_bd ha
    have hlen := itoa_len v b1 b2
    have hsz : s.size = s.data.toList.length := by simp
    rw [hi] at hlen
    rw [if_neg (by omega)]
    exact rread_num s w h0 v hwh
  | none =>
    rw [hn] at hwh
    have hw : WholeIs s 0 false := hwh
    clear hwh
    cases ht : s.toList == [84, 82, 85, 69] with
    | true =>
      have hz := size_of_eq ht
      rw [if_neg (by simp at hz; omega)]
      simp only [if_true]
      exact rread_named s w h0 3 1 hw (fun w => named_true s w ht)
    | false =>
    cases hf : s.toList == [70, 65, 76, 83, 69] with
    | true =>
      have hz := size_of_eq hf
      rw [if_neg (by simp at hz; omega)]
      simp only [Bool.false_eq_true, if_false, if_true]
      exact rread_named s w h0 3 0 hw (fun w => named_false s w ht hf)
    | false =>
    cases h0' : s.toList == [35, 68, 73, 86, 33] with
    | true =>
      have hz := size_of_eq h0'
      have hb : badOf s = 1 := by unfold badOf; simp [h0']
      rw [if_neg (by simp at hz; omega), hb]
      exact rread_named s w h0 4 1 hw (fun w => named_0 s w ht hf h0')
    | false =>
    cases h1 : s.toList == [35, 86, 65, 76, 85, 69, 33] with
    | true =>
      have hz := size_of_eq h1
      have hb : badOf s = 2 := by unfold badOf; simp [h0', h1]
      rw [if_neg (by simp at hz; omega), hb]
      exact rread_named s w h0 4 2 hw (fun w => named_1 s w ht hf h0' h1)
    | false =>
    cases h2 : s.toList == [35, 82, 69, 70, 33] with
    | true =>
      have hz := size_of_eq h2
      have hb : badOf s = 3 := by unfold badOf; simp [h0', h1, h2]
      rw [if_neg (by simp at hz; omega), hb]
      exact rread_named s w h0 4 3 hw (fun w => named_2 s w ht hf h0' h1 h2)
    | false =>
    cases h3 : s.toList == [35, 78, 65, 77, 69, 33] with
    | true =>
      have hz := size_of_eq h3
      have hb : badOf s = 4 := by unfold badOf; simp [h0', h1, h2, h3]
      rw [if_neg (by simp at hz; omega), hb]
      exact rread_named s w h0 4 4 hw (fun w => named_3 s w ht hf h0' h1 h2 h3)
    | false =>
    cases h4 : s.toList == [35, 78, 85, 77, 33] with
    | true =>
      have hz := size_of_eq h4
      have hb : badOf s = 5 := by unfold badOf; simp [h0', h1, h2, h3, h4]
      rw [if_neg (by simp at hz; omega), hb]
      exact rread_named s w h0 4 5 hw (fun w => named_4 s w ht hf h0' h1 h2 h3 h4)
    | false =>
    cases h5 : s.toList == [35, 78, 79, 78, 69, 33] with
    | true =>
      have hz := size_of_eq h5
      have hb : badOf s = 6 := by unfold badOf; simp [h0', h1, h2, h3, h4, h5]
      rw [if_neg (by simp at hz; omega), hb]
      exact rread_named s w h0 4 6 hw (fun w => named_5 s w ht hf h0' h1 h2 h3 h4 h5)
    | false =>
    have hb : badOf s = 0 := by unfold badOf; simp [h0', h1, h2, h3, h4, h5]
    have hnm : NamedIs s 0 0 false := fun w => named_6 s w ht hf h0' h1 h2 h3 h4 h5
    by_cases hl : (200 : Int) < (s.size : Int)
    · rw [if_pos hl]
      exact rread_long s w h0 hl hw hnm
    · rw [if_neg hl, hb]
      exact rread_text s w h0 (by omega) hw hnm
end Go.Proofs.YtgoadofnfaidcaaGreatDoor
