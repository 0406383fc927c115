/- What becomes of refs where a formula is moved, and where rows come in and go: plain Lean. Nothing is walked here. -/
import Derived.Test.YtimagcmmaffpjaaGreatDoorQa
import Derived.Test.YtimagcmmaffpjaaGreatDoorAshift
import Derived.Test.YtimagcmmaffpjaaGreatDoorPc
namespace Go.Proofs.YtimagcmmaffpjaaGreatDoor.fm
abbrev isK (r : Rf) : Prop := adr.isC r.c r.r = true
theorem isK_iff {r : Rf} : isK r ↔ (1 ≤ r.c ∧ r.c ≤ 26) ∧ 1 ≤ r.r ∧ r.r ≤ 99 := adr.isC_iff
/-- Shift. -/
def mvR (cols rows : Int) (r : Rf) : Rf × Bool := (⟨(adr.shR r.c r.r r.fc r.fr cols rows).c, (adr.shR r.c r.r r.fc r.fr cols rows).r, (adr.shR r.c r.r r.fc r.fr cols rows).fc, (adr.shR r.c r.r r.fc r.fr cols rows).fr⟩, (adr.shR r.c r.r r.fc r.fr cols rows).ok)
def lineR (row : Bool) (r : Rf) : Int := if row = true then r.r else r.c
def caR (cols rows : Int) (r : Rf) : Rf × Bool := (⟨r.c + cols, r.r + rows, r.fc, r.fr⟩, adr.isC (r.c + cols) (r.r + rows))
def cyR (row : Bool) (d : Int) (r : Rf) : Rf × Bool := if row = true then caR 0 d r else caR d 0 r
def inR (row : Bool) (at' many : Int) (r : Rf) : Rf × Bool := if lineR row r < at' then (r, true) else cyR row many r
def deR (row : Bool) (at' many : Int) (r : Rf) : Rf × Bool := if lineR row r < at' then (r, true) else if lineR row r < at' + many then (r, false) else cyR row (-many) r
def both (f : Rf → Rf × Bool) (a b : Rf) : (Rf × Rf) × Bool := (((f a).1, (f b).1), (f a).2 && (f b).2)
def opt {α : Type} (x : α × Bool) : Option α := if x.2 = true then some x.1 else none
theorem opt_some {α : Type} {x : α × Bool} {y : α} (h : opt x = some y) : x.2 = true ∧ x.1 = y := by
  unfold opt at h
  split at h
  · next h1 => exact ⟨h1, Option.some.inj h⟩
  · cases h
theorem opt_of {α : Type} {x : α × Bool} (h : x.2 = true) : opt x = some x.1 := if_pos h
def Cw (f : Rf → Rf × Bool) : Chg := ⟨fun r => opt (f r), fun a b => opt (both f a b)⟩
theorem cw_back {f g : Rf → Rf × Bool} (h : ∀ r r', isK r → opt (f r) = some r' → opt (g r') = some r) {t : T} (hg : Gd ink t) : (chg (Cw f) t).bads = t.bads → chg (Cw g) (chg (Cw f) t) = t := by
  refine chg_back (K := ink) (fun r r' hr h1 => h r r' hr h1) (fun r t x hr ht h1 => ?_) hg
  obtain ⟨h2, rfl⟩ := opt_some h1
  have h2' : ((f r).2 && (f t).2) = true := h2
  rw [Bool.and_eq_true] at h2'
  have e1 := opt_some (h r _ hr (opt_of h2'.1))
  have e2 := opt_some (h t _ ht (opt_of h2'.2))
  show opt (both g (f r).1 (f t).1) = some (r, t)
  unfold both
  rw [opt_of (by show ((g (f r).1).2 && (g (f t).1).2) = true; rw [e1.1, e2.1]; rfl)]
  show some ((g (f r).1).1, (g (f t).1).1) = _
  rw [e1.2, e2.2]
theorem cw_id {f : Rf → Rf × Bool} (h : ∀ r, isK r → f r = (r, true)) {t : T} (hg : Gd ink t) : chg (Cw f) t = t := by
  refine chg_id (K := ink) (fun r hr => ?_) (fun r t hr ht => ?_) hg
  · show opt (f r) = some r
    rw [h r hr]; rfl
  · show opt (both f r t) = some (r, t)
    unfold both
    rw [h r hr, h t ht]; rfl
theorem mv_id (r : Rf) (h : isK r) : mvR 0 0 r = (r, true) := by
  have hb := isK_iff.1 h
  have e1 : adr.sum1 r.fc r.c 0 = r.c := by unfold adr.sum1; split <;> (try split) <;> omega
  have e2 : adr.sum1 r.fr r.r 0 = r.r := by unfold adr.sum1; split <;> (try split) <;> omega
  have e : adr.shR r.c r.r r.fc r.fr 0 0 = ⟨r.c, r.r, r.fc, r.fr, true⟩ := by
    unfold adr.shR
    rw [if_pos h, e1, e2, if_pos h]
  unfold mvR
  rw [e]
theorem mv_back (cols rows : Int) (h1 : -99 ≤ cols ∧ cols ≤ 99) (h2 : -99 ≤ rows ∧ rows ≤ 99) (r r' : Rf) (h : isK r) (hm : opt (mvR cols rows r) = some r') : opt (mvR (-cols) (-rows) r') = some r := by
  have hb := isK_iff.1 h
  obtain ⟨ho, he⟩ := opt_some hm
  have ho : (adr.shR r.c r.r r.fc r.fr cols rows).ok = true := ho
  have hs : isK ⟨adr.sum1 r.fc r.c cols, adr.sum1 r.fr r.r rows, r.fc, r.fr⟩ ∧ adr.shR r.c r.r r.fc r.fr cols rows = ⟨adr.sum1 r.fc r.c cols, adr.sum1 r.fr r.r rows, r.fc, r.fr, true⟩ := by
    unfold adr.shR at ho ⊢
    rw [if_pos h] at ho ⊢
    split at ho
    · next h3 => rw [if_pos h3]; exact ⟨h3, rfl⟩
    · cases ho
  obtain ⟨hk, hs⟩ := hs
  have he' : r' = ⟨adr.sum1 r.fc r.c cols, adr.sum1 r.fr r.r rows, r.fc, r.fr⟩ := by
    rw [← he]
    unfold mvR
    rw [hs]
  have hb2 := isK_iff.1 hk
  simp only at hb2
  have e1 : adr.sum1 r.fc (adr.sum1 r.fc r.c cols) (-cols) = r.c := by
    unfold adr.sum1 at hb2 ⊢
    cases r.fc <;> simp at hb2 ⊢ <;> split at hb2 <;> (try split) <;> omega
  have e2 : adr.sum1 r.fr (adr.sum1 r.fr r.r rows) (-rows) = r.r := by
    unfold adr.sum1 at hb2 ⊢
    cases r.fr <;> simp at hb2 ⊢ <;> split at hb2 <;> (try split) <;> omega
  subst he'
  have e : adr.shR (adr.sum1 r.fc r.c cols) (adr.sum1 r.fr r.r rows) r.fc r.fr (-cols) (-rows) = ⟨r.c, r.r, r.fc, r.fr, true⟩ := by
    unfold adr.shR
    rw [if_pos hk, e1, e2, if_pos h]
  unfold mvR
  simp only [e]
  rfl
theorem in_back (row : Bool) (at' many : Int) (h0 : 0 ≤ many) (r r' : Rf) (h : isK r) (hm : opt (inR row at' many r) = some r') : isK r' ∧ deR row at' many r' = (r, true) := by
  obtain ⟨ho, he⟩ := opt_some hm
  unfold inR at ho he
  by_cases hl : lineR row r < at'
  · rw [if_pos hl] at ho he
    subst he
    refine ⟨h, ?_⟩
    unfold deR
    rw [if_pos hl]
  · rw [if_neg hl] at ho he
    unfold cyR caR at ho he
    unfold lineR at hl
    cases row with
    | true =>
      simp only [if_true, Int.add_zero] at ho he hl
      subst he
      refine ⟨ho, ?_⟩
      unfold deR lineR cyR caR
      simp only [if_true]
      rw [if_neg (by omega), if_neg (by omega)]
      have e : r.r + many + -many = r.r := by omega
      simp only [Int.add_zero, e]
      rw [h]
    | false =>
      simp only [Bool.false_eq_true, if_false, Int.add_zero] at ho he hl
      subst he
      refine ⟨ho, ?_⟩
      unfold deR lineR cyR caR
      simp only [Bool.false_eq_true, if_false]
      rw [if_neg (by omega), if_neg (by omega)]
      have e : r.c + many + -many = r.c := by omega
      simp only [Int.add_zero, e]
      rw [h]
/-- All refs of a tree are of a kind. -/
inductive Fits (P : Rf → Prop) : T → Prop
  | mk {k n : Int} {s : ByteArray} {r t : Rf} {ts : List T} (h5 : k = 5 → P r) (h6 : k = 6 → P r ∧ P t) (hs : ∀ (i : Nat) u, ts[i]? = some u → Fits P u) : Fits P (.nd k n s r t ts)
theorem fits_gd {t : T} (h : Gd ink t) : Fits isK t := by
  induction h with
  | mk h5 h6 hs ih => exact .mk (fun e => (h5 e).2) (fun e => (h6 e).2) (fun i u hu => ih u (List.mem_of_getElem? hu))
theorem fits_chg {P : Rf → Prop} {f : Rf → Rf × Bool} (h : ∀ r r', isK r → opt (f r) = some r' → P r') {t : T} (hg : Gd ink t) : Fits P (chg (Cw f) t) := by
  induction hg with
  | @mk k n s r t ts h5 h6 hs ih =>
    have hl : ∀ (i : Nat) u, (chgL (Cw f) ts)[i]? = some u → Fits P u := fun i u hu => by
      rw [chgL_at] at hu
      obtain ⟨v, hv, rfl⟩ := Option.map_eq_some_iff.1 hu
      exact ih v (List.mem_of_getElem? hv)
    have hbad : Fits P badN := .mk (fun e => by cases e) (fun e => by cases e) (fun i u hu => by simp at hu)
    rw [chg_eq]
    unfold chgN
    by_cases e5 : k = 5
    · rw [if_pos e5]
      cases hc : (Cw f).ref r with
      | none => exact hbad
      | some r' => exact .mk (fun _ => h r r' (h5 e5).2 hc) (fun e => by omega) hl
    · rw [if_neg e5]
      by_cases e6 : k = 6
      · rw [if_pos e6]
        cases hc : (Cw f).box r t with
        | none => exact hbad
        | some x =>
          obtain ⟨h1, h2⟩ := opt_some (show opt (both f r t) = some x from hc)
          have h1' : ((f r).2 && (f t).2) = true := h1
          rw [Bool.and_eq_true] at h1'
          subst h2
          exact .mk (fun e => by omega) (fun _ => ⟨h r _ (h6 e6).2.1 (opt_of h1'.1), h t _ (h6 e6).2.2 (opt_of h1'.2)⟩) hl
      · rw [if_neg e6]
        exact .mk (fun e => absurd e e5) (fun e => absurd e e6) hl
theorem ok_chg {C : Chg} {t : T} (h : Ok t) : Ok (chg C t) := by
  induction h with
  | @mk k n s r t ts hn hl hs ih =>
    have hl' : ∀ (i : Nat) u, (chgL C ts)[i]? = some u → Ok u := fun i u hu => by
      rw [chgL_at] at hu
      obtain ⟨v, hv, rfl⟩ := Option.map_eq_some_iff.1 hu
      exact ih i v hv
    have hlen : (chgL C ts).length ≤ 9223372036854775807 := by rw [chgL_len]; exact hl
    have hbad : Ok badN := .mk (by decide) (Nat.zero_le _) (fun i u hu => by simp at hu)
    rw [chg_eq]
    unfold chgN
    split
    · split
      · exact hbad
      · exact .mk hn hlen hl'
    · split
      · split
        · exact hbad
        · exact .mk hn hlen hl'
      · exact .mk hn hlen hl'
theorem bd_chg {N : Nat} {C : Chg} {t : T} (h : Bd N t) : Bd N (chg C t) := by
  induction h with
  | @mk k n s r t ts hl hs ih =>
    have hl' : ∀ (i : Nat) u, (chgL C ts)[i]? = some u → Bd N u := fun i u hu => by
      rw [chgL_at] at hu
      obtain ⟨v, hv, rfl⟩ := Option.map_eq_some_iff.1 hu
      exact ih i v hv
    have hlen : (chgL C ts).length ≤ N := by rw [chgL_len]; exact hl
    have hbad : Bd N badN := .mk (Nat.zero_le _) (fun i u hu => by simp at hu)
    rw [chg_eq]
    unfold chgN
    split
    · split
      · exact hbad
      · exact .mk hlen hl'
    · split
      · split
        · exact hbad
        · exact .mk hlen hl'
      · exact .mk hlen hl'
end Go.Proofs.YtimagcmmaffpjaaGreatDoor.fm
