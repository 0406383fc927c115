/- What the law asks of texts and nodes, in plain Lean: 1+2; what is written is read; what is read is written no longer. Conditions: as each theorem says. -/
import Derived.Test.YtmpfknokjianbaaGreatDoorPr
namespace Go.Proofs.YtmpfknokjianbaaGreatDoor.fm
open Go.RowKit
theorem cntL_len (ts : List T) : ts.length ≤ cntL ts := by
  induction ts with
  | nil => simp
  | cons t ts ih => have := cnt_pos t; simp only [cntL, List.length_cons]; omega
theorem cntL_kid : ∀ (ts : List T) (i : Nat) u, ts[i]? = some u → u.cnt ≤ cntL ts
  | [], i, u, h => by simp at h
  | t :: ts, i, u, h => by
    cases i with
    | zero => simp at h; subst h; simp only [cntL]; omega
    | succ i => have := cntL_kid ts i u (by simpa using h); simp only [cntL]; omega
theorem ok_of {t : T} {x : List UInt8} {dp : Nat} (h : W ink t x dp) : t.cnt ≤ 140737488355328 → Ok t := by
  induction h with
  | num h0 h1 => intro _; exact .mk h1 (by simp) (fun i u hu => by simp at hu)
  | text h => intro _; exact .mk (by decide) (by simp) (fun i u hu => by simp at hu)
  | truth h => intro _; exact .mk (by rcases h with rfl | rfl <;> decide) (by simp) (fun i u hu => by simp at hu)
  | bad h h6 => intro _; exact .mk (by omega) (by simp) (fun i u hu => by simp at hu)
  | ref h => intro _; exact .mk (by decide) (by simp) (fun i u hu => by simp at hu)
  | box h h2 => intro _; exact .mk (by decide) (by simp) (fun i u hu => by simp at hu)
  | @neg a x d ha h ih =>
    intro hc
    rw [cnt_eq] at hc
    exact .mk (by decide) (by simp) (fun i u hu => by
      have hk := cntL_kid [a] i u hu
      cases i with
      | zero => simp at hu; subst hu; exact ih (by omega)
      | succ i => simp at hu)
  | @two op a b x y d e h1 h11 ha hb hx hy ihx ihy =>
    intro hc
    rw [cnt_eq] at hc
    exact .mk (by omega) (by simp) (fun i u hu => by
      have hk := cntL_kid [a, b] i u hu
      match i with
      | 0 => simp at hu; subst hu; exact ihx (by omega)
      | 1 => simp at hu; subst hu; exact ihy (by omega)
      | i + 2 => simp at hu)
  | @call name ts xs ds hn hx hd h ih =>
    intro hc
    rw [cnt_eq] at hc
    have hl := cntL_len ts
    exact .mk (by decide) (by omega) (fun i u hu => by
      have hk := cntL_kid ts i u hu
      have hi := (List.getElem?_eq_some_iff.1 hu).1
      exact ih i u _ _ hu (List.getElem?_eq_getElem (by omega)) (List.getElem?_eq_getElem (by omega)) (by omega))
/-- What is written is read as it was. -/
theorem back_one {t : T} {x : List UInt8} {dp : Nat} (h : W ink t x dp) (h6 : t.kd ≠ 6) (h1 : x.length + 1 ≤ 200) (h2 : dp ≤ 30) : parse lexP ⟨(61 :: x).toArray⟩ = .ok t 0 := parse_back lexP fit h h6 h2 h1
/-- What any text means is written no longer than it. -/
theorem back_two {s : ByteArray} {t : T} {k : Nat} (h : parse lexP s = .ok t k) : ∃ x dp, W ink t x dp ∧ t.kd ≠ 6 ∧ t.cnt ≤ 200 ∧ Ok t ∧ x.length + 1 ≤ 200 ∧ x.length + 1 ≤ s.size ∧ dp ≤ 30 := by
  have hs : s.size ≤ 200 := by
    unfold parse at h
    split at h
    · cases h
    · omega
  obtain ⟨x, dp, hw, h6, hl, hd⟩ := parse_short lexP ink s hs fit h
  have hc := cnt_le fit hw
  exact ⟨x, dp, hw, h6, by omega, ok_of hw (by omega), by omega, hl, hd⟩
/-- 1+2. -/
theorem fact_12 : ∃ a b, parse lexP ⟨#[61, 49, 43, 50]⟩ = .ok (.nd 8 8 nul .z .z [a, b]) 0 := by
  have h1 : W ink (.nd 1 1 nul .z .z []) (ink.num 1) 0 := .num (by decide) (by decide)
  have h2 : W ink (.nd 1 2 nul .z .z []) (ink.num 2) 0 := .num (by decide) (by decide)
  have h3 := W.two (K := ink) (op := 8) (by decide) (by decide) (by decide) (by decide) h1 h2
  have e1 : ink.num 1 = [49] := by show Lib.itoa 1 = [49]; unfold Lib.itoa; rw [if_neg (by decide)]; show Lib.decDigits 1 = _; rw [adr.dec_small (by decide)]; rfl
  have e2 : ink.num 2 = [50] := by show Lib.itoa 2 = [50]; unfold Lib.itoa; rw [if_neg (by decide)]; show Lib.decDigits 2 = _; rw [adr.dec_small (by decide)]; rfl
  rw [e1, e2] at h3
  exact ⟨_, _, back_one h3 (by decide) (by decide) (by decide)⟩
end Go.Proofs.YtmpfknokjianbaaGreatDoor.fm
