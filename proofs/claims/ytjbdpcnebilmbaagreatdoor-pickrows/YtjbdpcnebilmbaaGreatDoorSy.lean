
/- Package value: Two at the six tests. Conditions: as each theorem says. -/
import Derived.Test.YtjbdpcnebilmbaaGreatDoorSx
namespace Go.Proofs.YtjbdpcnebilmbaaGreatDoor.so
open Go.RowKit Go.Sort Go.Shelf
theorem two_any (x : Vl) (o : Int) (y : Vl) (h1 : 1 ≤ o) (h6 : o ≤ 6) (w : World) :
    Calls Tryz.prog 34 #[.int .i64 o, V x.k x.n x.s, V y.k y.n y.s] w fun e w' => e = .returned (V (twoV x o y).k (twoV x o y).n (twoV x o y).s) ∧ Below w.heap.size w w' := by
  have key : Gives 59 #[.int .i64 o, V x.k x.n x.s, V y.k y.n y.s] (twoV x o y).k (twoV x o y).n (twoV x o y).s := by
    intro W
    unfold twoV
    by_cases h : x.k = 4
    · rw [if_pos h]
      have := hold_a o x.n x.s y.k y.n y.s W
      rw [← h] at this
      exact this
    · rw [if_neg h]
      have h4 : (x.k == 4) = false := beq_eq_false_iff_ne.2 h
      by_cases h' : y.k = 4
      · rw [if_pos h']
        have := hold_b o x.k x.n x.s y.n y.s W h4
        rw [← h'] at this
        exact this
      · rw [if_neg h']
        have h4' : (y.k == 4) = false := beq_eq_false_iff_ne.2 h'
        unfold says Vl.beside
        have ho : o = 1 ∨ o = 2 ∨ o = 3 ∨ o = 4 ∨ o = 5 ∨ o = 6 := by omega
        rcases ho with rfl | rfl | rfl | rfl | rfl | rfl
        · rw [if_pos rfl]; exact hold_1 _ _ _ _ _ _ W h4 h4'
        · rw [if_neg (by decide), if_pos rfl]; exact hold_2 _ _ _ _ _ _ W h4 h4'
        · rw [if_neg (by decide), if_neg (by decide), if_pos rfl]; exact hold_3 _ _ _ _ _ _ W h4 h4'
        · rw [if_neg (by decide), if_neg (by decide), if_neg (by decide), if_pos rfl]; exact hold_4 _ _ _ _ _ _ W h4 h4'
        · rw [if_neg (by decide), if_neg (by decide), if_neg (by decide), if_neg (by decide), if_pos rfl]; exact hold_5 _ _ _ _ _ _ W h4 h4'
        · rw [if_neg (by decide), if_neg (by decide), if_neg (by decide), if_neg (by decide), if_neg (by decide)]; exact hold_6 _ _ _ _ _ _ W h4 h4'
  have ho : o = 1 ∨ o = 2 ∨ o = 3 ∨ o = 4 ∨ o = 5 ∨ o = 6 := by omega
  rcases ho with rfl | rfl | rfl | rfl | rfl | rfl
  · exact ptwo_1 _ _ _ _ _ _ _ _ _ key w
  · exact ptwo_2 _ _ _ _ _ _ _ _ _ key w
  · exact ptwo_3 _ _ _ _ _ _ _ _ _ key w
  · exact ptwo_4 _ _ _ _ _ _ _ _ _ key w
  · exact ptwo_5 _ _ _ _ _ _ _ _ _ key w
  · exact ptwo_6 _ _ _ _ _ _ _ _ _ key w
end Go.Proofs.YtjbdpcnebilmbaaGreatDoor.so
