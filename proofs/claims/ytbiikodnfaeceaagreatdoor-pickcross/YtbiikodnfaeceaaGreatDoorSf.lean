
/- Package sort: Distinct. Conditions: as each theorem says. -/
import Derived.Test.YtbiikodnfaeceaaGreatDoorSe
namespace Go.Proofs.YtbiikodnfaeceaaGreatDoor.so
open Go.RowKit Go.Sort Go.Shelf
/-- Is a row like one ahead? -/
def likeA (T : Tb) (n : Nat) (c : Nat → Int) (i : Nat) : Bool := (List.range i).any fun k => alk (T.v k) (T.v i) n c
theorem likeA_true {T : Tb} {n : Nat} {c : Nat → Int} {i : Nat} : likeA T n c i = true ↔ ∃ k, k < i ∧ alk (T.v k) (T.v i) n c = true := by
  unfold likeA
  simp
/-- The rows that are like none ahead. -/
def dst (T : Tb) (n : Nat) (c : Nat → Int) : Nat → List Int
  | 0 => []
  | j + 1 => if likeA T n c j = true then dst T n c j else dst T n c j ++ [(j : Int)]
theorem dst_len (T : Tb) (n : Nat) (c : Nat → Int) (j : Nat) : (dst T n c j).length ≤ j := by
  induction j with
  | zero => simp [dst]
  | succ j ih =>
    unfold dst
    split
    · omega
    · rw [List.length_append, List.length_singleton]; omega
theorem dst_yes {T : Tb} {n : Nat} {c : Nat → Int} {j : Nat} (h : likeA T n c j = true) : dst T n c (j + 1) = dst T n c j := by rw [dst, if_pos h]
theorem dst_no {T : Tb} {n : Nat} {c : Nat → Int} {j : Nat} (h : likeA T n c j = false) : dst T n c (j + 1) = dst T n c j ++ [(j : Int)] := by rw [dst, if_neg (by simp [h])]
theorem TM.cut {w : World} {p : Option Addr} {T : Tb} (h : TM w p T) {m : Nat} (hm : m ≤ T.q) : TM w p ⟨m, T.P, T.L, T.C, T.v⟩ := by
  rcases h with h | ⟨g, o, h1, h2, h3⟩
  · left; show m = 0; omega
  · exact .inr ⟨g, o, h1, h2, fun i hi => h3 i (Nat.lt_of_lt_of_le hi hm)⟩
end Go.Proofs.YtbiikodnfaeceaaGreatDoor.so
