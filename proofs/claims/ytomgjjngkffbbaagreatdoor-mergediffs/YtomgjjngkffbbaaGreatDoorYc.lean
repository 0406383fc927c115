
/- The reference: is it a cell, which of two stands ahead; package rows: the line of a cell, the cell in another line; which lines there are. Conditions: as each theorem says. -/
import Derived.Test.YtomgjjngkffbbaaGreatDoorZd
namespace Go.Proofs.YtomgjjngkffbbaaGreatDoor.ps
open Go.RowKit
open adr (C isC ckc)
set_option maxHeartbeats 1000000 in
theorem rin_any (c r : Int) (w : World) :
    Calls Tryz.prog 23 #[C c r] w fun e w' => e = .returned (.bool (isC c r)) ∧ Below w.heap.size w w' := by
  by_cases h1 : 1 ≤ c
  · by_cases h2 : c ≤ 26
    · by_cases h3 : 1 ≤ r
      · have e1 : isC c r = decide (r ≤ 99) := by unfold isC; simp [h1, h2, h3]
        rw [e1]
        clear e1
        go_enter Tryz.func23, Tryz.ntmps23
        go_wp2
        go_ret
        exact ⟨by simp, (Below.refl _ _).alloc (Nat.le_refl _) _⟩
      · have e1 : isC c r = false := by unfold isC; simp [h3]
        rw [e1]
        clear e1
        go_enter Tryz.func23, Tryz.ntmps23
        go_wp2
        go_ret
        exact ⟨rfl, (Below.refl _ _).alloc (Nat.le_refl _) _⟩
    · have e1 : isC c r = false := by unfold isC; simp [h2]
      rw [e1]
      clear e1
      go_enter Tryz.func23, Tryz.ntmps23
      go_wp2
      go_ret
      exact ⟨rfl, (Below.refl _ _).alloc (Nat.le_refl _) _⟩
  · have e1 : isC c r = false := by unfold isC; simp [h1]
    rw [e1]
    clear e1
    go_enter Tryz.func23, Tryz.ntmps23
    go_wp2
    go_ret
    exact ⟨rfl, (Below.refl _ _).alloc (Nat.le_refl _) _⟩
set_option maxHeartbeats 1000000 in
theorem rahead_any (a b c d : Int) (w : World) :
    Calls Tryz.prog 24 #[C a b, C c d] w fun e w' => e = .returned (.bool (decide (cmpC a b c d < 0))) ∧ Below w.heap.size w w' := by
  have hS := PC.start w a b c d
  have HB : Hid (Below w.heap.size w ((w.alloc (.cells #[.int .i64 a, .int .i64 b] 43)).alloc (.cells #[.int .i64 c, .int .i64 d] 43))) := hS.below
  obtain ⟨y0, y1, y2, y3, -⟩ := hS.opened
  clear hS
  by_cases h : b = d
  · have e1 : decide (cmpC a b c d < 0) = decide (a < c) := by rw [decide_eq_decide, cmpC_lt]; omega
    rw [e1]
    subst h
    clear e1
    go_enter Tryz.func24, Tryz.ntmps24
    go_wp2
    go_ret
    exact ⟨rfl, HB.out⟩
  · have e1 : decide (cmpC a b c d < 0) = decide (b < d) := by rw [decide_eq_decide, cmpC_lt]; omega
    rw [e1]
    clear e1
    go_enter Tryz.func24, Tryz.ntmps24
    go_wp2
    go_ret
    exact ⟨rfl, HB.out⟩
/-- The line of a cell. -/
def lnO (row : Bool) (c r : Int) : Int := if row = true then r else c
/-- The cell in another line. -/
def inC (row : Bool) (c l : Int) : Int := if row = true then c else l
def inR (row : Bool) (r l : Int) : Int := if row = true then l else r
/-- Is there such a line? -/
def isLn (row : Bool) (l : Int) : Bool := isC (inC row 1 l) (inR row 1 l)
theorem isLn_row (l : Int) : isLn true l = (decide (1 ≤ l) && decide (l ≤ 99)) := by
  unfold isLn inC inR isC
  simp
theorem isLn_col (l : Int) : isLn false l = (decide (1 ≤ l) && decide (l ≤ 26)) := by
  unfold isLn inC inR isC
  simp
end Go.Proofs.YtomgjjngkffbbaaGreatDoor.ps
