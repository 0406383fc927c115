
/- Masks: plain. What is of a mask in which each byte has a mark ahead; of any text; of a text and more. Nothing is walked here. -/
import Derived.Test.YtlaeoofjoofbcaaGreatDoorFwa
namespace Go.Proofs.YtlaeoofjoofbcaaGreatDoor.fw
open Go.RowKit Go.Sort
/-- A piece of a mask. -/
inductive Mk where
  | many : Mk
  | one : Mk
  | byte : UInt8 → Mk
/-- The pieces of a mask, if it is one. -/
def mkL : List UInt8 → Option (List Mk)
  | [] => some []
  | [b] => if b = 42 then some [.many] else if b = 63 then some [.one] else if b = 126 then none else some [.byte b]
  | b :: c :: r => if b = 42 then (mkL (c :: r)).map (Mk.many :: ·) else if b = 63 then (mkL (c :: r)).map (Mk.one :: ·) else if b = 126 then (mkL r).map (Mk.byte c :: ·) else (mkL (c :: r)).map (Mk.byte b :: ·)
/-- Is a text of the pieces? -/
def lkL : List Mk → List UInt8 → Bool
  | [], s => s.isEmpty
  | .many :: m, [] => lkL m []
  | .many :: m, c :: s => lkL m (c :: s) || lkL (.many :: m) s
  | .one :: _, [] => false
  | .one :: m, _ :: s => lkL m s
  | .byte _ :: _, [] => false
  | .byte b :: m, c :: s => (b == c) && lkL m s
termination_by m s => (m.length, s.length)
/-- Each byte with a mark ahead. -/
def escL (t : List UInt8) : List UInt8 := t.flatMap fun b => [126, b]
theorem escL_snoc (t : List UInt8) (b : UInt8) : escL (t ++ [b]) = escL t ++ [126, b] := by simp [escL]
theorem escL_len (t : List UInt8) : (escL t).length = 2 * t.length := by
  induction t with
  | nil => rfl
  | cons b t ih => simp only [escL, List.flatMap_cons, List.length_append, List.length_cons, List.length_nil] at ih ⊢; omega
theorem mk_esc (t : List UInt8) : mkL (escL t) = some (t.map Mk.byte) := by
  induction t with
  | nil => rfl
  | cons b t ih =>
    show mkL (126 :: b :: escL t) = _
    unfold mkL
    rw [if_neg (by decide), if_neg (by decide), if_pos rfl, ih]
    rfl
theorem mk_esc_many (t : List UInt8) : mkL (escL t ++ [42]) = some (t.map Mk.byte ++ [.many]) := by
  induction t with
  | nil => rfl
  | cons b t ih =>
    show mkL (126 :: b :: (escL t ++ [42])) = _
    unfold mkL
    rw [if_neg (by decide), if_neg (by decide), if_pos rfl, ih]
    rfl
theorem lk_self (t o : List UInt8) : lkL (t.map Mk.byte) o = decide (t = o) := by
  induction t generalizing o with
  | nil =>
    cases o with
    | nil => simp [lkL]
    | cons c o => simp [lkL]
  | cons b t ih =>
    cases o with
    | nil => simp [lkL]
    | cons c o =>
      rw [List.map_cons, lkL, ih]
      by_cases h : b = c
      · subst h; simp
      · simp [h]
theorem lk_many (o : List UInt8) : lkL [.many] o = true := by
  induction o with
  | nil => simp [lkL]
  | cons c o ih => rw [lkL, ih, Bool.or_true]
theorem lk_more (t o : List UInt8) : lkL (t.map Mk.byte ++ [.many]) (t ++ o) = true := by
  induction t with
  | nil => exact lk_many o
  | cons b t ih =>
    rw [List.map_cons, List.cons_append, List.cons_append, lkL, ih]
    simp
theorem lk_fact : mkL [97, 63, 42] = some [.byte 97, .one, .many] ∧ lkL [.byte 97, .one, .many] [97, 98, 99] = true := by
  refine ⟨by simp [mkL], ?_⟩
  simp [lkL]
/-- What Like answers of a text and a mask. -/
def liB (s m : List UInt8) : Bool := match mkL m with
  | some k => lkL k s
  | none => false
def liE (m : List UInt8) : Int := match mkL m with
  | some _ => 0
  | none => 2
theorem li_self (t o : List UInt8) : liB o (escL t) = decide (t = o) ∧ liE (escL t) = 0 := by
  unfold liB liE
  rw [mk_esc]
  exact ⟨lk_self t o, rfl⟩
theorem li_many (o : List UInt8) : liB o [42] = true ∧ liE [42] = 0 := ⟨lk_many o, rfl⟩
theorem li_more (t o : List UInt8) : liB (t ++ o) (escL t ++ [42]) = true ∧ liE (escL t ++ [42]) = 0 := by
  unfold liB liE
  rw [mk_esc_many]
  exact ⟨lk_more t o, rfl⟩
theorem li_fact : liB [97, 98, 99] [97, 63, 42] = true ∧ liE [97, 63, 42] = 0 := by
  unfold liB liE
  rw [lk_fact.1]
  exact ⟨lk_fact.2, rfl⟩
end Go.Proofs.YtlaeoofjoofbcaaGreatDoor.fw
