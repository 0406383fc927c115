
/- The reference's closing bracket (a fault ahead). Condition: the place lies in the text, which has at most 200 bytes. -/
import Derived.Test.YtomgjjngkffbbaaGreatDoorRm
namespace Go.Proofs.YtomgjjngkffbbaaGreatDoor.fm
open Go.RowKit
set_option maxHeartbeats 8000000 in
theorem rclose_bad (pb k d : Nat) (wr : Int) (bd : Int) (hbd : bd ≠ 0) (s : ByteArray) (hs : s.size ≤ 200) (w : World) (h : PD w pb s k wr bd (d + 1)) (hk : k ≤ s.size) (hd : d ≤ 30) (t : Tk) (ht : tkR s k = t)  :
    Calls Tryz.prog 97 #[ptr pb] w fun e w' => e = .returned (.tuple #[]) ∧ PD w' pb s t.e wr bd d ∧ Kp (· = pb) w w' := by
  have HT : Hid (∀ w, Calls Tryz.prog 54 #[.string s, .int .i64 k] w fun e w' => e = .returned (KV (tkR s k).kind ((tkR s k).a : Nat) ((tkR s k).e : Nat) (tkR s k).t) ∧ Below w.heap.size w w') := fun w => token_at s k w hs hk
  rw [ht] at HT
  clear ht
  obtain ⟨⟨c0, c1, c2, c3, c4⟩, f0, f1, f2, f3, f4⟩ := h.cells
  have hb0 : (bd == 0) = false := by rw [beq_eq_false_iff_ne]; exact hbd
  clear hbd
  go_enter Tryz.func97, Tryz.ntmps97
  go_upto_region 0 with fail
  go_cut [2] (fun s2 wx => ∃ kb, s2 = ptr kb ∧ KS w t kb wx)
  case first =>
    have hlt := h.lt
    have hne : w.heap.size ≠ pb := by omega
    have hne' : pb ≠ w.heap.size := by omega
    go_region_with (go_at_call 54; refine (HT.out _).mono ?_; rintro e w1 ⟨rfl, hb⟩; first | (have hz := kz_a hb; have hz4 := cells4f hz; obtain ⟨⟨z0, z1, z2, z3⟩, y0, y1, y2, y3⟩ := hz4) | skip)
    all_goals
      go_wp2_with fail
      go_meet
      case rel => first | exact ⟨_, rfl, ks3 hb⟩ | exact ks2 hb (Q := fun W => ∃ kb, _ = ptr kb ∧ KS w t kb W) (fun w2 h2 => ⟨_, rfl, h2⟩)
  case rest =>
  obtain ⟨kb, rfl, hS⟩ := hcut
  clear c0 c1 c2 c3 c4 f0 f1 f2 f3 f4 HT
  have hlt := h.lt
  have hlo := hS.lo
  have hne : kb ≠ pb := by omega
  have hP : PD wc pb s k wr bd (d + 1) := h.below hS.below
  obtain ⟨⟨c0, c1, c2, c3, c4⟩, f0, f1, f2, f3, f4⟩ := hP.cells
  obtain ⟨⟨z0, z1, z2, z3⟩, y0, y1, y2, y3⟩ := cells4f hS.blk
  have hKx : Kp (· = pb) w wc := (Kp.refl (· = pb) w).below hS.below
  go_wp2_with fail
  go_end0
  exact ⟨rfl, (hP.setAt t.e).setDeep d, (hKx.setCell (Or.inl rfl) _).setCell (Or.inl rfl) _⟩
end Go.Proofs.YtomgjjngkffbbaaGreatDoor.fm
