
/- The law FormatWide, from its last part on, by what Number answers. Conditions: as each theorem says. -/
import Derived.Test.YtnelglmbckgbgaaGreatDoorFwb
import Derived.Test.YtnelglmbckgbgaaGreatDoorFwc
namespace Go.Proofs.YtnelglmbckgbgaaGreatDoor.fw
open Go.RowKit Go.Sort
def errV (e : Int) : Value := if e = 0 then .nilIface else .iface 50 (.int .i64 e)
def headR : Code → Option Nat
  | .region n _ _ => some n
  | .seq a _ => headR a
  | _ => none
/-- All from a region on, whatever it is bracketed with. -/
def findSeq (n : Nat) : Code → Option Code
  | .seq a b => if headR a = some n then some (.seq a b) else match findSeq n a with
    | some c => some c
    | none => findSeq n b
  | .cond _ a b => match findSeq n a with
    | some c => some c
    | none => findSeq n b
  | .loop c => findSeq n c
  | .block _ c => findSeq n c
  | .scope c => findSeq n c
  | _ => none
/-- Is a byte a letter? -/
def ltr (b : UInt8) : Bool := decide (65 ≤ b.toNat) && decide (b.toNat ≤ 90)
/-- The number that letters make. -/
def numL (l : List UInt8) : Nat := l.foldl (fun n b => n * 26 + (b.toNat - 64)) 0
theorem numL_snoc (l : List UInt8) (b : UInt8) : numL (l ++ [b]) = numL l * 26 + (b.toNat - 64) := by simp [numL]
/-- Are they the letters of a column? -/
def gdL (l : List UInt8) : Bool := !l.isEmpty && decide (l.length ≤ 5) && l.all ltr
def nmB (l : List UInt8) : Bool := gdL l && decide (numL l ≤ 1000000)
def nmE (l : List UInt8) : Int := if nmB l = true then 0 else 2
def nmN (l : List UInt8) : Int := if nmB l = true then (numL l : Nat) else 0
end Go.Proofs.YtnelglmbckgbgaaGreatDoor.fw
