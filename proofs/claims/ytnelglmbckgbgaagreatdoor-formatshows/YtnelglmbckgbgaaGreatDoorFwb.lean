
/- The document's Wide, walked. Conditions: as each theorem says. -/
import Derived.Test.YtnelglmbckgbgaaGreatDoorFwa
namespace Go.Proofs.YtnelglmbckgbgaaGreatDoor.fw
open Go.RowKit Go.Sort Go.Lib
/-- Blanks ahead. -/
def lft (n wide : Nat) (side : Int) : Nat := if side = 2 then wide - n else if side = 1 then (wide - n) / 2 else 0
/-- A text cut or filled. -/
def wideL (s : List UInt8) (wide : Nat) (side : Int) : List UInt8 := (List.replicate (lft s.length wide side) 32 ++ s ++ List.replicate wide 32).take wide
theorem wideL_len (s : List UInt8) (wide : Nat) (side : Int) : (wideL s wide side).length = wide := by
  unfold wideL
  rw [List.length_take, List.length_append, List.length_replicate]
  omega
theorem rep_snoc (n : Nat) (b : UInt8) : List.replicate (n + 1) b = List.replicate n b ++ [b] := List.replicate_succ'
theorem take_rep (A : List UInt8) (m wide : Nat) (h : A.length = m) : (A ++ List.replicate (wide - m) 32).take wide = (A ++ List.replicate wide 32).take wide := by
  have e : List.replicate wide (32 : UInt8) = List.replicate (wide - m) 32 ++ List.replicate (wide - (wide - m)) 32 := by rw [List.replicate_append_replicate]; congr 1; omega
  rw [e, ← List.append_assoc]
  exact (List.take_append_of_le_length (by rw [List.length_append, List.length_replicate]; omega)).symm
def lenV : Value → Nat
  | .slice _ n _ => n
  | _ => 0
end Go.Proofs.YtnelglmbckgbgaaGreatDoor.fw
