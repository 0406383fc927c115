
/- Rows as text: plain. Nothing is walked here. -/
import Derived.Test.YtdinmgepdeigjaaGreatDoorCva
namespace Go.Proofs.YtdinmgepdeigjaaGreatDoor.fw
open Go.RowKit Go.Sort
/-- A byte for which a field is put between marks. -/
def spc (c : UInt8) : Bool := c == 44 || c == 34 || c == 10 || c == 13
/-- Is a field put between marks? -/
def qfd (f : List UInt8) (one : Bool) : Bool := (f.isEmpty && one) || f.any spc
/-- A field's bytes, each mark doubled. -/
def esq (f : List UInt8) : List UInt8 := f.flatMap fun c => if c = 34 then [34, 34] else [c]
theorem esq_snoc (f : List UInt8) (c : UInt8) : esq (f ++ [c]) = esq f ++ (if c = 34 then [34, 34] else [c]) := by simp [esq]
theorem esq_len (f : List UInt8) : f.length ≤ (esq f).length := by
  induction f with
  | nil => simp
  | cons c f ih =>
    unfold esq at *
    rw [List.flatMap_cons, List.length_append, List.length_cons]
    by_cases h : c = 34
    · rw [if_pos h]; simp only [List.length_cons, List.length_nil]; omega
    · rw [if_neg h]; simp only [List.length_cons, List.length_nil]; omega
theorem esq_take (f : List UInt8) (j : Nat) : (esq (f.take j)).length ≤ (esq f).length := by
  have e : esq f = esq (f.take j) ++ esq (f.drop j) := by
    unfold esq
    rw [← List.flatMap_append, List.take_append_drop]
  rw [e, List.length_append]
  omega
/-- A field as it is written. -/
def fld (f : List UInt8) (one : Bool) : List UInt8 := if qfd f one = true then [34] ++ esq f ++ [34] else esq f
/-- The fields of a row, marks between them. -/
def fds (one : Bool) (row : List (List UInt8)) : List UInt8 := row.zipIdx.flatMap fun x => (if x.2 = 0 then [] else [44]) ++ fld x.1 one
theorem fds_snoc (one : Bool) (row : List (List UInt8)) (f : List UInt8) : fds one (row ++ [f]) = fds one row ++ ((if row.length = 0 then [] else [44]) ++ fld f one) := by
  unfold fds
  rw [List.zipIdx_append, List.flatMap_append]
  simp
def rwL (row : List (List UInt8)) : List UInt8 := fds (decide (row.length = 1)) row ++ [10]
def csvL (t : List (List (List UInt8))) : List UInt8 := t.flatMap rwL
theorem csv_snoc (t : List (List (List UInt8))) (r : List (List UInt8)) : csvL (t ++ [r]) = csvL t ++ rwL r := by simp [csvL]
theorem fds_take (one : Bool) (row : List (List UInt8)) (k : Nat) : (fds one (row.take k)).length ≤ (fds one row).length := by
  have e : (fds one (row.take k ++ row.drop k)).length = (fds one row).length := by rw [List.take_append_drop]
  rw [← e]
  unfold fds
  rw [List.zipIdx_append, List.flatMap_append, List.length_append]
  omega
theorem csv_take (t : List (List (List UInt8))) (i : Nat) : (csvL (t.take i)).length ≤ (csvL t).length := by
  have e : csvL t = csvL (t.take i) ++ csvL (t.drop i) := by
    unfold csvL
    rw [← List.flatMap_append, List.take_append_drop]
  rw [e, List.length_append]
  omega
/-- What is written within a row is no longer than all. -/
theorem csv_part {t : List (List (List UInt8))} {i : Nat} {r : List (List UInt8)} (hr : t[i]? = some r) (k : Nat) : (csvL (t.take i)).length + (fds (decide (r.length = 1)) (r.take k)).length + 1 ≤ (csvL t).length := by
  have h1 := csv_take t (i + 1)
  rw [List.take_add_one, hr] at h1
  have e : t.take i ++ (some r).toList = t.take i ++ [r] := rfl
  rw [e, csv_snoc, List.length_append] at h1
  have h2 := fds_take (decide (r.length = 1)) r k
  unfold rwL at h1
  rw [List.length_append, List.length_singleton] at h1
  omega
/-- The fault of rows. -/
def csvE (t : List (List (List UInt8))) : Int := if t.any (fun r => r.isEmpty) = true then 3 else if 4000 < (csvL t).length then 4 else 0
end Go.Proofs.YtdinmgepdeigjaaGreatDoor.fw
