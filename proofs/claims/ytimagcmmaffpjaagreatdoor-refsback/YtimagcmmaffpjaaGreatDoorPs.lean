/- Words mean what they are written for: numbers, truths, refs. Condition: the word has at most 200 bytes. -/
import Derived.Test.YtimagcmmaffpjaaGreatDoorPq
import Derived.Test.YtimagcmmaffpjaaGreatDoorFv
namespace Go.Proofs.YtimagcmmaffpjaaGreatDoor.adr
open Go.RowKit
theorem isD_list (s : ByteArray) (k : Nat) : isD s k = decide (s.data.toList[k]? = some 36) := by
  unfold isD
  split
  · rename_i h
    have hl : k < s.data.toList.length := by simpa using h
    rw [List.getElem?_eq_getElem hl]
    have e : s.data.toList[k] = s[k] := rfl
    rw [e]
    rw [Bool.eq_iff_iff, beq_iff_eq, decide_eq_true_iff]
    constructor
    · intro q
      congr 1
      exact UInt8.toNat_inj.1 q
    · intro q
      injection q with q
      rw [q]
      rfl
  · rename_i h
    rw [List.getElem?_eq_none (by simpa using h)]
    rfl
theorem row_dec {u : Nat} (h1 : 1 ≤ u) (h2 : u < 100) : rowAcc 0 (Lib.decDigits u) = u := by
  by_cases h : u < 10
  · rw [dec_small h, rowAcc_step (by rw [u8 (by omega)]; omega) (by rw [u8 (by omega)]; omega), u8 (by omega)]
    show _ = _
    simp only [rowAcc]
    omega
  · rw [dec_two h h2, rowAcc_step (by rw [u8 (by omega)]; omega) (by rw [u8 (by omega)]; omega), u8 (by omega),
      rowAcc_step (by rw [u8 (by omega)]; omega) (by rw [u8 (by omega)]; omega), u8 (by omega)]
    simp only [rowAcc]
    omega
theorem dec_head {u : Nat} (h2 : u < 100) : ∃ d l, Lib.decDigits u = d :: l ∧ 48 ≤ d.toNat ∧ d.toNat ≤ 57 := by
  by_cases h : u < 10
  · exact ⟨_, _, dec_small h, by rw [u8 (by omega)]; omega, by rw [u8 (by omega)]; omega⟩
  · exact ⟨_, _, dec_two h h2, by rw [u8 (by omega)]; omega, by rw [u8 (by omega)]; omega⟩
theorem ne36 {d : UInt8} (h : 37 ≤ d.toNat) : decide (some d = some (36 : UInt8)) = false := by
  rw [decide_eq_false_iff_not]
  intro e
  injection e with e
  rw [e] at h
  exact absurd h (by decide)
/-- A text that is made as a ref's is read as that ref. -/
theorem rd_made (s : ByteArray) (c r : Int) (fc fr : Bool) (h : isC c r = true) (hs : s.data.toList = sgL fc ++ UInt8.ofNat (64 + c.toNat) :: (sgL fr ++ Lib.decDigits r.toNat)) : rdR s = ⟨c, r, fc, fr, true⟩ := by
  obtain ⟨⟨h1, h2⟩, h3, h4⟩ := isC_iff.1 h
  obtain ⟨d, l, hd, hd1, hd2⟩ := dec_head (u := r.toNat) (by omega)
  have hL : (UInt8.ofNat (64 + c.toNat)).toNat = 64 + c.toNat := u8 (by omega)
  have i0 : isD s 0 = fc := by
    rw [isD_list, hs]
    cases fc
    · exact ne36 (by rw [hL]; omega)
    · rfl
  have hlen : s.size = s.data.toList.length := by simp
  have hk : b2N fc < s.size := by
    rw [hlen, hs]
    cases fc <;> simp [sgL, b2N]
  have hat : s[b2N fc] = UInt8.ofNat (64 + c.toNat) := by
    have e : s.data.toList[b2N fc]? = some (UInt8.ofNat (64 + c.toNat)) := by
      rw [hs]
      cases fc <;> rfl
    rw [List.getElem?_eq_getElem (by rw [← hlen]; exact hk)] at e
    exact Option.some.inj e
  have i1 : isD s (b2N fc + 1) = fr := by
    rw [isD_list, hs, hd]
    cases fr
    · cases fc
      · exact ne36 (by omega)
      · exact ne36 (by omega)
    · cases fc <;> rfl
  have hrow : rowAt s (b2N fc + 1 + b2N fr) = r := by
    unfold rowAt
    have e : s.data.toList.drop (b2N fc + 1 + b2N fr) = Lib.decDigits r.toNat := by
      rw [hs]
      cases fc <;> cases fr <;> rfl
    rw [e, row_dec (by omega) (by omega)]
    omega
  unfold rdR
  simp only [i0, i1, hrow, hat, hL]
  have ec : (((64 + c.toNat : Nat)) : Int) - 64 = c := by omega
  rw [dif_pos hk, ec, if_pos h]

end Go.Proofs.YtimagcmmaffpjaaGreatDoor.adr
namespace Go.Proofs.YtimagcmmaffpjaaGreatDoor.fm
open Go.RowKit
theorem ref_read (r : Rf) (h : adr.isC r.c r.r = true) : refOf ⟨(ink.ref r).toArray⟩ = some r := by
  have e := adr.rd_made ⟨(ink.ref r).toArray⟩ r.c r.r r.fc r.fr h rfl
  unfold refOf
  rw [e]
  rfl
theorem dec_digits : ∀ (u : Nat), ∀ c ∈ Lib.decDigits u, 48 ≤ c.toNat ∧ c.toNat ≤ 57 := by
  intro u
  induction u using Nat.strongRecOn with
  | ind u ih =>
    intro c hc
    rw [Lib.decDigits] at hc
    split at hc
    · next h => rw [List.mem_singleton] at hc; subst hc; rw [adr.u8 (by omega)]; omega
    · next h =>
      rw [List.mem_append] at hc
      rcases hc with hc | hc
      · exact ih (u / 10) (by omega) c hc
      · rw [List.mem_singleton] at hc; subst hc; rw [adr.u8 (by omega)]; omega
theorem ref_digit {s : ByteArray} {d : UInt8} {l : List UInt8} (h : s.data.toList = d :: l) (h1 : 48 ≤ d.toNat) (h2 : d.toNat ≤ 57) : refOf s = none := by
  have hD : adr.isD s 0 = false := by
    rw [adr.isD_list, h]
    simp
    intro e
    subst e
    exact absurd h1 (by decide)
  have hb : adr.b2N (adr.isD s 0) = 0 := by rw [hD]; rfl
  have hok : (adr.rdR s).ok = false := by
    unfold adr.rdR
    split
    · next hlt =>
      split
      · next hC =>
        exfalso
        have hC1 := (adr.isC_iff.1 hC).1.1
        have e0 : s.data.toList[adr.b2N (adr.isD s 0)]? = some (s[adr.b2N (adr.isD s 0)]'hlt) := by
          rw [Array.getElem?_toList]
          exact Array.getElem?_eq_getElem hlt
        have e2 : s.data.toList[adr.b2N (adr.isD s 0)]? = some d := by rw [hb, h]; rfl
        have e1 : d = s[adr.b2N (adr.isD s 0)]'hlt := by rw [e0] at e2; exact (Option.some.inj e2).symm
        rw [← e1] at hC1
        omega
      · rfl
    · rfl
  unfold refOf
  rw [hok]
  rfl
theorem row_len {l : List UInt8} {u : Nat} (h : adr.rowAcc 0 l = u) (h1 : 1 ≤ u) (h2 : u ≤ 99) : (Lib.decDigits u).length ≤ l.length := by
  have h3 := adr.it_len (r := u) (by omega)
  match l, h with
  | [], h => rw [adr.rowAcc] at h; omega
  | [d], h =>
    have hu : u < 10 := by
      by_cases hb : d.toNat < 48 ∨ 57 < d.toNat ∨ ((0 : Nat) = 0 ∧ d.toNat = 48)
      · rw [adr.rowAcc_bad hb] at h; omega
      · by_cases h99 : 99 < 0 * 10 + (d.toNat - 48)
        · rw [adr.rowAcc_over h99] at h; omega
        · rw [adr.rowAcc_step hb h99, adr.rowAcc] at h; omega
    rw [adr.dec_small hu]; simp
  | _ :: _ :: _, _ => simp only [List.length_cons]; omega
theorem ref_back (t : ByteArray) (r : Rf) (h : refOf t = some r) : adr.isC r.c r.r = true ∧ (ink.ref r).length ≤ t.size := by
  unfold refOf at h
  split at h
  · next hok =>
    cases h
    by_cases hlt : adr.b2N (adr.isD t 0) < t.size
    · by_cases hC : adr.isC ((t[adr.b2N (adr.isD t 0)].toNat : Int) - 64) (adr.rowAt t (adr.b2N (adr.isD t 0) + 1 + adr.b2N (adr.isD t (adr.b2N (adr.isD t 0) + 1)))) = true
      · have er : adr.rdR t = ⟨(t[adr.b2N (adr.isD t 0)].toNat : Int) - 64, adr.rowAt t (adr.b2N (adr.isD t 0) + 1 + adr.b2N (adr.isD t (adr.b2N (adr.isD t 0) + 1))), adr.isD t 0, adr.isD t (adr.b2N (adr.isD t 0) + 1), true⟩ := by
          unfold adr.rdR; rw [dif_pos hlt, if_pos hC]
        rw [er]
        refine ⟨hC, ?_⟩
        have hC2 := adr.isC_iff.1 hC
        obtain ⟨kk, hkk⟩ : ∃ kk, adr.b2N (adr.isD t 0) + 1 + adr.b2N (adr.isD t (adr.b2N (adr.isD t 0) + 1)) = kk := ⟨_, rfl⟩
        have hr := hC2.2
        rw [hkk] at hr
        have hrow : adr.rowAcc 0 (t.data.toList.drop kk) = (adr.rowAt t kk).toNat := by unfold adr.rowAt; simp
        have hl := row_len hrow (by omega) (by omega)
        have hpos : 1 ≤ (Lib.decDigits (adr.rowAt t kk).toNat).length := by
          rcases Nat.eq_zero_or_pos (Lib.decDigits (adr.rowAt t kk).toNat).length with e | e
          · have := List.length_eq_zero_iff.1 e
            rw [Lib.decDigits] at this
            split at this <;> simp at this
          · exact e
        have hdl : ∀ b, (dollar b).length = adr.b2N b := fun b => by cases b <;> rfl
        show (dollar _ ++ _ :: (dollar _ ++ Lib.decDigits _)).length ≤ _
        simp only [List.length_append, List.length_cons, hdl]
        rw [hkk]
        simp only [List.length_drop, Array.length_toList] at hl
        have e : t.data.size = t.size := rfl
        omega
      · unfold adr.rdR at hok; rw [dif_pos hlt, if_neg hC] at hok; cases hok
    · unfold adr.rdR at hok; rw [dif_neg hlt] at hok; cases hok
  · cases h
theorem fit : Fit lexP ink := {
  numM := by
    intro n h0 h1
    have hit : Lib.itoa n = Lib.decDigits n.toNat := by unfold Lib.itoa; rw [if_neg (by omega)]
    have hne := itoa_ne n
    have hno : refOf ⟨(Lib.itoa n).toArray⟩ = none := by
      cases hl : Lib.itoa n with
      | nil => exact absurd hl hne
      | cons d l =>
        have hd := dec_digits n.toNat d (by rw [← hit, hl]; simp)
        exact ref_digit (s := ⟨(d :: l).toArray⟩) (d := d) (l := l) (by simp) hd.1 hd.2
    have hnum : numOf ⟨(Lib.itoa n).toArray⟩ = some n := by
      unfold numOf
      have e : (⟨(Lib.itoa n).toArray⟩ : ByteArray).data.toList = Lib.itoa n := by simp
      rw [e, atoi_itoa n (by omega) h1]
      simp
    have hlen := itoa_len n (by omega) h1
    have hsz : (⟨(Lib.itoa n).toArray⟩ : ByteArray).size = (Lib.itoa n).length := by show (Lib.itoa n).toArray.size = _; simp
    have hrd : rd ⟨(Lib.itoa n).toArray⟩ = (1, n, nul) := by
      unfold rd
      rw [if_neg (by rw [ByteArray.toList_eq]; simpa using hne), if_neg (by omega), hnum]
    show meanOf ⟨(Lib.itoa n).toArray⟩ = _
    unfold meanOf
    rw [hno, hrd]
    rfl
  numW := by
    intro n h0 c hc
    have hit : Lib.itoa n = Lib.decDigits n.toNat := by unfold Lib.itoa; rw [if_neg (by omega)]
    have hc2 : c ∈ Lib.decDigits n.toNat := by rw [← hit]; exact hc
    have := dec_digits _ c hc2
    simp [isW]; omega
  numE := fun n _ => itoa_ne n
  refM := by
    intro r h
    show meanOf ⟨(ink.ref r).toArray⟩ = _
    unfold meanOf
    rw [ref_read r h]
  refR := fun r h => ref_read r h
  refW := by
    intro r h c hc
    obtain ⟨⟨h1, h2⟩, h3, h4⟩ := adr.isC_iff.1 h
    have hc2 : c ∈ dollar r.fc ∨ c = UInt8.ofNat (64 + r.c.toNat) ∨ c ∈ dollar r.fr ∨ c ∈ Lib.decDigits r.r.toNat := by
      have : c ∈ dollar r.fc ++ UInt8.ofNat (64 + r.c.toNat) :: (dollar r.fr ++ Lib.decDigits r.r.toNat) := hc
      simpa using this
    have hd : ∀ b, c ∈ dollar b → c = 36 := fun b hb => by cases b <;> simp [dollar] at hb; exact hb
    rcases hc2 with e | e | e | e
    · rw [hd _ e]; decide
    · rw [e, adr.u8 (by omega)]; simp [isW]; omega
    · rw [hd _ e]; decide
    · have := dec_digits _ c e; simp [isW]; omega
  refE := by
    intro r _ e
    have : (dollar r.fc ++ UInt8.ofNat (64 + r.c.toNat) :: (dollar r.fr ++ Lib.decDigits r.r.toNat)) = [] := e
    simp at this
  truM := by
    intro n hn
    rcases hn with rfl | rfl
    · have e1 : refOf ⟨(truT 0).toArray⟩ = none := by decide +kernel
      have e2 : (rd ⟨(truT 0).toArray⟩).1 = 3 ∧ (rd ⟨(truT 0).toArray⟩).2.1 = 0 := by decide +kernel
      show meanOf ⟨(truT 0).toArray⟩ = _
      unfold meanOf
      rw [e1]
      simp only [e2.1, e2.2]
      rfl
    · have e1 : refOf ⟨(truT 1).toArray⟩ = none := by decide +kernel
      have e2 : (rd ⟨(truT 1).toArray⟩).1 = 3 ∧ (rd ⟨(truT 1).toArray⟩).2.1 = 1 := by decide +kernel
      show meanOf ⟨(truT 1).toArray⟩ = _
      unfold meanOf
      rw [e1]
      simp only [e2.1, e2.2]
      rfl
  back := by
    intro t u hw hs hm
    have hm2 : meanOf t = some u := hm
    unfold meanOf at hm2
    split at hm2
    · next r hr =>
      cases hm2
      have hb := ref_back t r hr
      exact ⟨fun e => absurd (show (5 : Int) = 6 from e) (by decide), fun e => absurd (show (5 : Int) = 8 from e) (by decide), _, .ref hb.1, hb.2⟩
    · next hr =>
      unfold rd at hm2
      split at hm2
      · simp at hm2
      · split at hm2
        · simp at hm2
        · split at hm2
          · next v hv =>
            simp at hm2
            subst hm2
            obtain ⟨ha, hi⟩ := numOf_some hv
            have hb := atoi_bd ha
            have hv0 : 0 ≤ v := by
              rcases Int.lt_or_le v 0 with h | h
              · have e : Lib.itoa v = 45 :: Lib.decDigits v.natAbs := by unfold Lib.itoa; rw [if_pos h]
                have := hw 45 (by rw [← hi, e]; simp)
                exact absurd this (by decide)
              · exact h
            refine ⟨fun e => absurd (show (1 : Int) = 6 from e) (by decide), fun e => absurd (show (1 : Int) = 8 from e) (by decide), _, .num hv0 hb.2, ?_⟩
            have e1 : (ink.num v).length = t.data.toList.length := by rw [← hi]; rfl
            rw [e1]; simp
          · split at hm2
            · next ht =>
              simp at hm2
              subst hm2
              have hl : t.data.toList.length = 4 := by rw [← ByteArray.toList_eq, beq_iff_eq.1 ht]; rfl
              refine ⟨fun e => absurd (show (3 : Int) = 6 from e) (by decide), fun e => absurd (show (3 : Int) = 8 from e) (by decide), _, .truth (.inr rfl), ?_⟩
              have e2 : t.data.toList.length = t.size := by simp
              show (4 : Nat) ≤ t.size
              omega
            · split at hm2
              · next ht =>
                simp at hm2
                subst hm2
                have hl : t.data.toList.length = 5 := by rw [← ByteArray.toList_eq, beq_iff_eq.1 ht]; rfl
                refine ⟨fun e => absurd (show (3 : Int) = 6 from e) (by decide), fun e => absurd (show (3 : Int) = 8 from e) (by decide), _, .truth (.inl rfl), ?_⟩
                have e2 : t.data.toList.length = t.size := by simp
                show (5 : Nat) ≤ t.size
                omega
              · split at hm2 <;> simp at hm2
  rback := fun t r h => ref_back t r h }
end Go.Proofs.YtimagcmmaffpjaaGreatDoor.fm
/- What the law asks of texts and nodes, in plain Lean: 1+2; what is written is read; what is read is written no longer. Conditions: as each theorem says. -/
namespace Go.Proofs.YtimagcmmaffpjaaGreatDoor.fm
open Go.RowKit
theorem cntL_len (ts : List T) : ts.length ≤ cntL ts := by
  induction ts with
  | nil => simp
  | cons t ts ih => have := cnt_pos t; simp only [cntL, List.length_cons]; omega
theorem cntL_kid : ∀ (ts : List T) (i : Nat) u, ts[i]? = some u → u.cnt ≤ cntL ts
  | [], i, u, h => by simp at h
  | t :: ts, i, u, h => by
    cases i with
    | zero => simp at h; subst h; simp only [cntL]; omega
    | succ i => have := cntL_kid ts i u (by simpa using h); simp only [cntL]; omega
theorem ok_of {t : T} {x : List UInt8} {dp : Nat} (h : W ink t x dp) : t.cnt ≤ 140737488355328 → Ok t := by
  induction h with
  | num h0 h1 => intro _; exact .mk h1 (by simp) (fun i u hu => by simp at hu)
  | text h => intro _; exact .mk (by decide) (by simp) (fun i u hu => by simp at hu)
  | truth h => intro _; exact .mk (by rcases h with rfl | rfl <;> decide) (by simp) (fun i u hu => by simp at hu)
  | bad h h6 => intro _; exact .mk (by omega) (by simp) (fun i u hu => by simp at hu)
  | ref h => intro _; exact .mk (by decide) (by simp) (fun i u hu => by simp at hu)
  | box h h2 => intro _; exact .mk (by decide) (by simp) (fun i u hu => by simp at hu)
  | @neg a x d ha h ih =>
    intro hc
    rw [cnt_eq] at hc
    exact .mk (by decide) (by simp) (fun i u hu => by
      have hk := cntL_kid [a] i u hu
      cases i with
      | zero => simp at hu; subst hu; exact ih (by omega)
      | succ i => simp at hu)
  | @two op a b x y d e h1 h11 ha hb hx hy ihx ihy =>
    intro hc
    rw [cnt_eq] at hc
    exact .mk (by omega) (by simp) (fun i u hu => by
      have hk := cntL_kid [a, b] i u hu
      match i with
      | 0 => simp at hu; subst hu; exact ihx (by omega)
      | 1 => simp at hu; subst hu; exact ihy (by omega)
      | i + 2 => simp at hu)
  | @call name ts xs ds hn hx hd h ih =>
    intro hc
    rw [cnt_eq] at hc
    have hl := cntL_len ts
    exact .mk (by decide) (by omega) (fun i u hu => by
      have hk := cntL_kid ts i u hu
      have hi := (List.getElem?_eq_some_iff.1 hu).1
      exact ih i u _ _ hu (List.getElem?_eq_getElem (by omega)) (List.getElem?_eq_getElem (by omega)) (by omega))
/-- What is written is read as it was. -/
theorem back_one {t : T} {x : List UInt8} {dp : Nat} (h : W ink t x dp) (h6 : t.kd ≠ 6) (h1 : x.length + 1 ≤ 200) (h2 : dp ≤ 30) : parse lexP ⟨(61 :: x).toArray⟩ = .ok t 0 := parse_back lexP fit h h6 h2 h1
/-- What any text means is written no longer than it. -/
theorem back_two {s : ByteArray} {t : T} {k : Nat} (h : parse lexP s = .ok t k) : ∃ x dp, W ink t x dp ∧ t.kd ≠ 6 ∧ t.cnt ≤ 200 ∧ Ok t ∧ x.length + 1 ≤ 200 ∧ x.length + 1 ≤ s.size ∧ dp ≤ 30 := by
  have hs : s.size ≤ 200 := by
    unfold parse at h
    split at h
    · cases h
    · omega
  obtain ⟨x, dp, hw, h6, hl, hd⟩ := parse_short lexP ink s hs fit h
  have hc := cnt_le fit hw
  exact ⟨x, dp, hw, h6, by omega, ok_of hw (by omega), by omega, hl, hd⟩
/-- 1+2. -/
theorem fact_12 : ∃ a b, parse lexP ⟨#[61, 49, 43, 50]⟩ = .ok (.nd 8 8 nul .z .z [a, b]) 0 := by
  have h1 : W ink (.nd 1 1 nul .z .z []) (ink.num 1) 0 := .num (by decide) (by decide)
  have h2 : W ink (.nd 1 2 nul .z .z []) (ink.num 2) 0 := .num (by decide) (by decide)
  have h3 := W.two (K := ink) (op := 8) (by decide) (by decide) (by decide) (by decide) h1 h2
  have e1 : ink.num 1 = [49] := by show Lib.itoa 1 = [49]; unfold Lib.itoa; rw [if_neg (by decide)]; show Lib.decDigits 1 = _; rw [adr.dec_small (by decide)]; rfl
  have e2 : ink.num 2 = [50] := by show Lib.itoa 2 = [50]; unfold Lib.itoa; rw [if_neg (by decide)]; show Lib.decDigits 2 = _; rw [adr.dec_small (by decide)]; rfl
  rw [e1, e2] at h3
  exact ⟨_, _, back_one h3 (by decide) (by decide) (by decide)⟩
end Go.Proofs.YtimagcmmaffpjaaGreatDoor.fm
