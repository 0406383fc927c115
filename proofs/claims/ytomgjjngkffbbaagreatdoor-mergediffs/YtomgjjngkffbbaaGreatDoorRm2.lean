
/- The reference's closing bracket (it is not there). Condition: the place lies in the text, which has at most 200 bytes. -/
import Derived.Test.YtomgjjngkffbbaaGreatDoorRm
import Derived.Test.YtomgjjngkffbbaaGreatDoorRc1
import Derived.Test.YtomgjjngkffbbaaGreatDoorRc2
namespace Go.Proofs.YtomgjjngkffbbaaGreatDoor.fm
open Go.RowKit
set_option maxHeartbeats 8000000 in
theorem rclose_no (pb k d : Nat) (wr : Int)  (s : ByteArray) (hs : s.size ≤ 200) (w : World) (h : PD w pb s k wr 0 (d + 1)) (hk : k ≤ s.size) (hd : d ≤ 30) (t : Tk) (ht : tkR s k = t) (hn : ¬ (t.kind = 4 ∧ (t.t.toList == [41]) = true)) :
    Calls Tryz.prog 97 #[ptr pb] w fun e w' => e = .returned (.tuple #[]) ∧ PD w' pb s t.e (t.a : Nat) 2 d ∧ Kp (· = pb) w w' := by
  have HT : Hid (∀ w, Calls Tryz.prog 54 #[.string s, .int .i64 k] w fun e w' => e = .returned (KV (tkR s k).kind ((tkR s k).a : Nat) ((tkR s k).e : Nat) (tkR s k).t) ∧ Below w.heap.size w w') := fun w => token_at s k w hs hk
  rw [ht] at HT
  clear ht
  obtain ⟨⟨c0, c1, c2, c3, c4⟩, f0, f1, f2, f3, f4⟩ := h.cells
  have HN : Hid (¬ (t.kind = 4 ∧ (t.t.toList == [41]) = true)) := hn
  clear hn
  go_enter Tryz.func97, Tryz.ntmps97
  go_upto_region 0 with fail
  go_cut [2] (fun s2 wx => ∃ kb, s2 = ptr kb ∧ KS w t kb wx)
  case first =>
    have hlt := h.lt
    have hne : w.heap.size ≠ pb := by omega
    have hne' : pb ≠ w.heap.size := by omega
    go_region_with (go_at_call 54; refine (HT.out _).mono ?_; rintro e w1 ⟨rfl, hb⟩; first | (have hz := kz_a hb; have hz4 := cells4f hz; obtain ⟨⟨z0, z1, z2, z3⟩, y0, y1, y2, y3⟩ := hz4) | skip)
    all_goals
      go_wp2_with fail
      go_meet
      case rel => first | exact ⟨_, rfl, ks3 hb⟩ | exact ks2 hb (Q := fun W => ∃ kb, _ = ptr kb ∧ KS w t kb W) (fun w2 h2 => ⟨_, rfl, h2⟩)
  case rest =>
  obtain ⟨kb, rfl, hS⟩ := hcut
  clear c0 c1 c2 c3 c4 f0 f1 f2 f3 f4 HT
  have hlt := h.lt
  have hlo := hS.lo
  have hne : kb ≠ pb := by omega
  have hP : PD wc pb s k wr 0 (d + 1) := h.below hS.below
  obtain ⟨⟨c0, c1, c2, c3, c4⟩, f0, f1, f2, f3, f4⟩ := hP.cells
  obtain ⟨⟨z0, z1, z2, z3⟩, y0, y1, y2, y3⟩ := cells4f hS.blk
  have hKx : Kp (· = pb) w wc := (Kp.refl (· = pb) w).below hS.below
  by_cases c4' : t.kind = 4
  · have hx : (t.t.toList == [41]) = false := by
      cases hq : (t.t.toList == [41]) with
      | true => exact absurd ⟨c4', hq⟩ HN.out
      | false => rfl
    have hc' : (t.kind != 4) = false := by rw [c4']; rfl
    clear HN c4'
    go_wp2_with fail
    go_at_call 55
    refine (fail_first pb k (d + 1) wr s t.a 2 _ hP).mono ?_
    rintro e w2 ⟨rfl, hP2, hK2⟩
    clear c0 c1 c2 c3 c4 f0 f1 f2 f3 f4 z0 z1 z2 z3 y0 y1 y2 y3
    obtain ⟨⟨c0, c1, c2, c3, c4⟩, f0, f1, f2, f3, f4⟩ := hP2.cells
    obtain ⟨⟨z0, z1, z2, z3⟩, y0, y1, y2, y3⟩ := cells4f (hK2.blk hS.blk hne)
    go_wp2_with fail
    go_end0
    exact ⟨rfl, (hP2.setAt t.e).setDeep d, ((hKx.trans hK2 (fun n hn => Or.inl hn)).setCell (Or.inl rfl) _).setCell (Or.inl rfl) _⟩
  · have hc' : (t.kind != 4) = true := by rw [bne_iff_ne]; exact c4'
    clear HN c4'
    go_wp2_with fail
    go_at_call 55
    refine (fail_first pb k (d + 1) wr s t.a 2 _ hP).mono ?_
    rintro e w2 ⟨rfl, hP2, hK2⟩
    clear c0 c1 c2 c3 c4 f0 f1 f2 f3 f4 z0 z1 z2 z3 y0 y1 y2 y3
    obtain ⟨⟨c0, c1, c2, c3, c4⟩, f0, f1, f2, f3, f4⟩ := hP2.cells
    obtain ⟨⟨z0, z1, z2, z3⟩, y0, y1, y2, y3⟩ := cells4f (hK2.blk hS.blk hne)
    go_wp2_with fail
    go_end0
    exact ⟨rfl, (hP2.setAt t.e).setDeep d, ((hKx.trans hK2 (fun n hn => Or.inl hn)).setCell (Or.inl rfl) _).setCell (Or.inl rfl) _⟩
end Go.Proofs.YtomgjjngkffbbaaGreatDoor.fm
/- The reference's reader: its ends; its closing bracket, whatever stands there. Condition: the place lies in the text, which has at most 200 bytes. -/
namespace Go.Proofs.YtomgjjngkffbbaaGreatDoor.fm
open Go.RowKit
/-- An end of the reference's reader, opened: what is alike in both. -/
theorem OutR.open {w : World} {pb : Nat} {s : ByteArray} {d : Nat} {wr : Int} {r : Rs T} {e : Ending} {w' : World} (h : OutR w pb s d wr r e w') :
    ∃ (a n : Int) (s1 : ByteArray) (r1 t1 : Rf) (p : Option Addr) (m c : Nat) (u : T) (j : Nat) (wr' bd : Int), e = .returned (NV a n s1 r1 t1 (.slice p m c)) ∧ Nd w' (Own w w') (NV a n s1 r1 t1 (.slice p m c)) u ∧ PD w' pb s j wr' bd d ∧ j ≤ s.size ∧ Kp (· = pb) w w' ∧
      ((∃ k, r = .ok u k ∧ bd = 0 ∧ wr' = wr ∧ skip s j = skip s k) ∨ (∃ k : Nat, r = .err k bd ∧ wr' = k ∧ bd ≠ 0)) := by
  cases r with
  | ok t k =>
    obtain ⟨v, j, h1, h2, h3, h4, h5, h6⟩ := h
    cases h2 with
    | mk hk hl hs => exact ⟨_, _, _, _, _, _, _, _, _, j, wr, 0, h1, .mk hk hl hs, h3, h4, h6, .inl ⟨k, rfl, rfl, rfl, h5⟩⟩
  | err k c =>
    obtain ⟨v, t, j, h1, h2, h3, h4, h5, h6⟩ := h
    cases h2 with
    | mk hk hl hs => exact ⟨_, _, _, _, _, _, _, _, _, j, k, c, h1, .mk hk hl hs, h3, h4, h6, .inr ⟨k, rfl, rfl, h5⟩⟩
theorem PD.alloc {w : World} {pb : Nat} {s : ByteArray} {k : Nat} {wr bd : Int} {d : Nat} (h : PD w pb s k wr bd d) (o : Obj) : PD (w.alloc o) pb s k wr bd d := h.below ((Below.refl _ _).alloc (Nat.le_refl _) _)
/-- What the closing bracket makes of the reader. -/
def Shut (s : ByteArray) (j : Nat) (wr bd : Int) (j' : Nat) (wr' bd' : Int) : Prop :=
  (bd ≠ 0 ∧ bd' = bd ∧ wr' = wr) ∨ (bd = 0 ∧ nx s (skip s j) = 41 ∧ bd' = 0 ∧ wr' = wr ∧ j' = skip s j + 1) ∨ (bd = 0 ∧ nx s (skip s j) ≠ 41 ∧ bd' = 2 ∧ wr' = (skip s j : Nat))
theorem rclose_any (pb j d : Nat) (wr bd : Int) (s : ByteArray) (hs : s.size ≤ 200) (w : World) (h : PD w pb s j wr bd (d + 1)) (hj : j ≤ s.size) (hd : d ≤ 30) :
    Calls Tryz.prog 97 #[ptr pb] w fun e w' => e = .returned (.tuple #[]) ∧ (∃ j' wr' bd', PD w' pb s j' wr' bd' d ∧ j' ≤ s.size ∧ Shut s j wr bd j' wr' bd') ∧ Kp (· = pb) w w' := by
  have hsp := tk_spec s j hj
  have hb := tk_byte s j 41 (.inr (.inl rfl)) hj
  by_cases h0 : bd = 0
  · subst h0
    by_cases c : nx s (skip s j) = 41
    · obtain ⟨q1, q2⟩ := hb.1.2 c
      refine (rclose_ok pb j d wr s hs w h hj hd _ rfl q1 q2).mono ?_
      rintro e w' ⟨rfl, hP, hK⟩
      exact ⟨rfl, ⟨_, _, _, hP, hsp.2.2, .inr (.inl ⟨rfl, c, rfl, rfl, hb.2 c⟩)⟩, hK⟩
    · refine (rclose_no pb j d wr s hs w h hj hd _ rfl (fun q => c (hb.1.1 q))).mono ?_
      rintro e w' ⟨rfl, hP, hK⟩
      rw [hsp.1] at hP
      exact ⟨rfl, ⟨_, _, _, hP, hsp.2.2, .inr (.inr ⟨rfl, c, rfl, rfl⟩)⟩, hK⟩
  · refine (rclose_bad pb j d wr bd h0 s hs w h hj hd _ rfl).mono ?_
    rintro e w' ⟨rfl, hP, hK⟩
    exact ⟨rfl, ⟨_, _, _, hP, hsp.2.2, .inl ⟨h0, rfl, rfl⟩⟩, hK⟩
end Go.Proofs.YtomgjjngkffbbaaGreatDoor.fm
