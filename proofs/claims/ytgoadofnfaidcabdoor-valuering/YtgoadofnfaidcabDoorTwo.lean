/- The operators on two numbers, and the rest: what each gives, for all numbers of 64 bits. Conditions: the numbers have 64 bits. -/
import Derived.Test.YtgoadofnfaidcabDoorArith
namespace Go.Proofs.YtgoadofnfaidcabDoor
open Go.RowKit
/-- A function of two numbers gives this value, whatever the memory. -/
def Works (g : Nat) (x y k n : Int) : Prop := ∀ w, Calls Tryd.prog g #[.int .i64 x, .int .i64 y] w fun e w' => e = .returned (V k n nul) ∧ Below w.heap.size w w'
set_option maxHeartbeats 2000000 in
theorem ofNumbers_num (g : Nat) (hgs : g = 9 ∨ g = 10 ∨ g = 11 ∨ g = 12 ∨ g = 16) (x y k n : Int) (w : World) (hg : Works g x y k n) :
    Calls Tryd.prog 8 #[V 1 x nul, V 1 y nul, .func (.func g) #[] #[]] w fun e w' => e = .returned (V k n nul) ∧ Below w.heap.size w w' := by
  rcases hgs with rfl | rfl | rfl | rfl | rfl
  all_goals
    go_enter Tryd.func8, Tryd.ntmps8
    go_wp2_with fail
    refine (numberOf_num _ _).mono ?_
    rintro e w1 ⟨rfl, hb⟩
    obtain ⟨hc, hf⟩ := bcell hb
    obtain ⟨z0, z1, z2⟩ : w.heap.size < w1.heap.size ∧ w.heap.size + 1 < w1.heap.size ∧ w.heap.size + 1 + 1 < w1.heap.size := by have := hb.size; simp at this; omega
    go_wp2_with fail
    refine (numberOf_num _ _).mono ?_
    rintro e w2 ⟨rfl, hb2⟩
    obtain ⟨hc2, hf2⟩ := bcell hb2
    obtain ⟨y0, y1, y2, y3⟩ : w.heap.size < w2.heap.size ∧ w.heap.size + 1 < w2.heap.size ∧ w.heap.size + 1 + 1 < w2.heap.size ∧ w1.heap.size < w2.heap.size := by have := hb2.size; simp at this; omega
    go_wp2_with fail
    refine (hg _).mono ?_
    rintro e w3 ⟨rfl, hb3⟩
    obtain ⟨hc3, hf3⟩ := bcell hb3
    obtain ⟨x0, x1, x2⟩ : w.heap.size < w3.heap.size ∧ w.heap.size + 1 < w3.heap.size ∧ w.heap.size + 1 + 1 < w3.heap.size := by have := hb3.size; simp at this; omega
    go_wp2_with fail
    exact bodyPost_ret (v := V k n nul) (by simp [results, Tryd.results8, go_sem, *]) rfl ⟨rfl, by (repeat (first | exact Below.refl _ _ | (refine Below.setCell ?_ (by first | omega | (simp <;> omega)) _) | (refine Below.alloc ?_ (by first | omega | (simp <;> omega)) _) | (refine Below.drew ?_) | (refine Below.trans ?_ (Below.mono (by assumption) (by first | omega | (simp <;> omega))))))⟩
set_option maxHeartbeats 1000000 in
theorem two_8 (x y k n : Int) (w : World) (hg : Works 9 x y k n) :
    Calls Tryd.prog 4 #[.int .i64 8, V 1 x nul, V 1 y nul] w fun e w' => e = .returned (V k n nul) ∧ Below w.heap.size w w' := by
  go_enter Tryd.func4, Tryd.ntmps4
  go_wp2_with fail
  refine (ofNumbers_num 9 (by omega) x y k n _ hg).mono ?_
  rintro e w1 ⟨rfl, hb⟩
  obtain ⟨hc, hf⟩ := bcell hb
  obtain ⟨z0, z1, z2⟩ : w.heap.size < w1.heap.size ∧ w.heap.size + 1 < w1.heap.size ∧ w.heap.size + 1 + 1 < w1.heap.size := by have := hb.size; simp at this; omega
  go_wp2_with fail
  exact bodyPost_ret (v := V k n nul) (by simp [results, Tryd.results4, go_sem, *]) rfl ⟨rfl, by (repeat (first | exact Below.refl _ _ | (refine Below.setCell ?_ (by first | omega | (simp <;> omega)) _) | (refine Below.alloc ?_ (by first | omega | (simp <;> omega)) _) | (refine Below.drew ?_) | (refine Below.trans ?_ (Below.mono (by assumption) (by first | omega | (simp <;> omega))))))⟩
set_option maxHeartbeats 1000000 in
theorem two_9 (x y k n : Int) (w : World) (hg : Works 10 x y k n) :
    Calls Tryd.prog 4 #[.int .i64 9, V 1 x nul, V 1 y nul] w fun e w' => e = .returned (V k n nul) ∧ Below w.heap.size w w' := by
  go_enter Tryd.func4, Tryd.ntmps4
  go_wp2_with fail
  refine (ofNumbers_num 10 (by omega) x y k n _ hg).mono ?_
  rintro e w1 ⟨rfl, hb⟩
  obtain ⟨hc, hf⟩ := bcell hb
  obtain ⟨z0, z1, z2⟩ : w.heap.size < w1.heap.size ∧ w.heap.size + 1 < w1.heap.size ∧ w.heap.size + 1 + 1 < w1.heap.size := by have := hb.size; simp at this; omega
  go_wp2_with fail
  exact bodyPost_ret (v := V k n nul) (by simp [results, Tryd.results4, go_sem, *]) rfl ⟨rfl, by (repeat (first | exact Below.refl _ _ | (refine Below.setCell ?_ (by first | omega | (simp <;> omega)) _) | (refine Below.alloc ?_ (by first | omega | (simp <;> omega)) _) | (refine Below.drew ?_) | (refine Below.trans ?_ (Below.mono (by assumption) (by first | omega | (simp <;> omega))))))⟩
set_option maxHeartbeats 1000000 in
theorem two_10 (x y k n : Int) (w : World) (hg : Works 11 x y k n) :
    Calls Tryd.prog 4 #[.int .i64 10, V 1 x nul, V 1 y nul] w fun e w' => e = .returned (V k n nul) ∧ Below w.heap.size w w' := by
  go_enter Tryd.func4, Tryd.ntmps4
  go_wp2_with fail
  refine (ofNumbers_num 11 (by omega) x y k n _ hg).mono ?_
  rintro e w1 ⟨rfl, hb⟩
  obtain ⟨hc, hf⟩ := bcell hb
  obtain ⟨z0, z1, z2⟩ : w.heap.size < w1.heap.size ∧ w.heap.size + 1 < w1.heap.size ∧ w.heap.size + 1 + 1 < w1.heap.size := by have := hb.size; simp at this; omega
  go_wp2_with fail
  exact bodyPost_ret (v := V k n nul) (by simp [results, Tryd.results4, go_sem, *]) rfl ⟨rfl, by (repeat (first | exact Below.refl _ _ | (refine Below.setCell ?_ (by first | omega | (simp <;> omega)) _) | (refine Below.alloc ?_ (by first | omega | (simp <;> omega)) _) | (refine Below.drew ?_) | (refine Below.trans ?_ (Below.mono (by assumption) (by first | omega | (simp <;> omega))))))⟩
set_option maxHeartbeats 1000000 in
theorem two_11 (x y k n : Int) (w : World) (hg : Works 12 x y k n) :
    Calls Tryd.prog 4 #[.int .i64 11, V 1 x nul, V 1 y nul] w fun e w' => e = .returned (V k n nul) ∧ Below w.heap.size w w' := by
  go_enter Tryd.func4, Tryd.ntmps4
  go_wp2_with fail
  refine (ofNumbers_num 12 (by omega) x y k n _ hg).mono ?_
  rintro e w1 ⟨rfl, hb⟩
  obtain ⟨hc, hf⟩ := bcell hb
  obtain ⟨z0, z1, z2⟩ : w.heap.size < w1.heap.size ∧ w.heap.size + 1 < w1.heap.size ∧ w.heap.size + 1 + 1 < w1.heap.size := by have := hb.size; simp at this; omega
  go_wp2_with fail
  exact bodyPost_ret (v := V k n nul) (by simp [results, Tryd.results4, go_sem, *]) rfl ⟨rfl, by (repeat (first | exact Below.refl _ _ | (refine Below.setCell ?_ (by first | omega | (simp <;> omega)) _) | (refine Below.alloc ?_ (by first | omega | (simp <;> omega)) _) | (refine Below.drew ?_) | (refine Below.trans ?_ (Below.mono (by assumption) (by first | omega | (simp <;> omega))))))⟩
set_option maxHeartbeats 1000000 in
theorem mod_two (x y k n : Int) (w : World) (hg : Works 16 x y k n) :
    Calls Tryd.prog 6 #[V 1 x nul, V 1 y nul] w fun e w' => e = .returned (V k n nul) ∧ Below w.heap.size w w' := by
  go_enter Tryd.func6, Tryd.ntmps6
  go_wp2_with fail
  refine (ofNumbers_num 16 (by omega) x y k n _ hg).mono ?_
  rintro e w1 ⟨rfl, hb⟩
  obtain ⟨hc, hf⟩ := bcell hb
  obtain ⟨z0, z1, z2⟩ : w.heap.size < w1.heap.size ∧ w.heap.size + 1 < w1.heap.size ∧ w.heap.size + 1 + 1 < w1.heap.size := by have := hb.size; simp at this; omega
  go_wp2_with fail
  exact bodyPost_ret (v := V k n nul) (by simp [results, Tryd.results6, go_sem, *]) rfl ⟨rfl, by (repeat (first | exact Below.refl _ _ | (refine Below.setCell ?_ (by first | omega | (simp <;> omega)) _) | (refine Below.alloc ?_ (by first | omega | (simp <;> omega)) _) | (refine Below.drew ?_) | (refine Below.trans ?_ (Below.mono (by assumption) (by first | omega | (simp <;> omega))))))⟩
end Go.Proofs.YtgoadofnfaidcabDoor
