
/- What sheet.Check says of a cell with its text. Conditions: as each theorem says. -/
import Derived.Test.YtomgjjngkffbbaaGreatDoorFwa
import Derived.Test.YtomgjjngkffbbaaGreatDoorYb
namespace Go.Proofs.YtomgjjngkffbbaaGreatDoor.ps
open Go.RowKit
open adr (C isC)
/-- What Check says of a cell with its text: a number that there is one of. -/
def SCk (f : Fl) (n : Int) : Prop := (f.s.size = 0 ∧ n = if isC f.c f.r = true then 0 else 1) ∨ (f.s.size ≠ 0 ∧ Told [f] n)
theorem SCk.one {f : Fl} {n m : Int} (h : SCk f n) (h' : SCk f m) : n = m := by
  rcases h with ⟨h1, h2⟩ | ⟨h1, h2⟩
  · rcases h' with ⟨g1, g2⟩ | ⟨g1, g2⟩
    · rw [h2, g2]
    · exact absurd h1 g1
  · rcases h' with ⟨g1, g2⟩ | ⟨g1, g2⟩
    · exact absurd g1 h1
    · exact h2.one g2
set_option maxHeartbeats 1600000 in
theorem scheck_any (f : Fl) (w : World) (hE : EnvP w) :
    Calls Tryz.prog 37 #[C f.c f.r, .string f.s] w fun e w' => (∃ t, e = .returned (errV t) ∧ SCk f t) ∧ Below w.heap.size w w' := by
  have hb0 : Below w.heap.size w (w.alloc (.cells #[.int .i64 f.c, .int .i64 f.r] 43)) := (Below.refl _ _).alloc (Nat.le_refl _) _
  have hb1 : Below w.heap.size w ((w.alloc (.cells #[.int .i64 f.c, .int .i64 f.r] 43)).alloc (.cells #[.int .i64 f.c, .int .i64 f.r, .string f.s] 45)) := hb0.alloc (by simp) _
  cases h0 : f.s.toList.isEmpty with
  | true =>
    have HE0 : Hid (f.s.size = 0) := emp_yes h0
    have HC : Hid (Calls Tryz.prog 45 #[C f.c f.r] (w.alloc (.cells #[.int .i64 f.c, .int .i64 f.r] 43)) fun e w' => (∃ v, e = .returned v ∧ ∃ t, v = errV t ∧ SCk f t) ∧ Below w.heap.size w w') := (adr.check_any f.c f.r _).mono (fun e w' ⟨e1, e2⟩ => ⟨⟨_, e1, if isC f.c f.r = true then 0 else 1, by cases isC f.c f.r <;> rfl, .inl ⟨HE0.out, rfl⟩⟩, bnext hb0 e2 hb0.size⟩)
    clear hE hb0 hb1
    go_enter Tryz.func37, Tryz.ntmps37
    go_wp2_with fail
    refine HC.out.mono ?_
    rintro e w1 ⟨⟨v, rfl, hv⟩, hb⟩
    go_wp2_with fail
    go_ret
    obtain ⟨t, rfl, ht⟩ := hv
    exact ⟨⟨t, rfl, ht⟩, hb⟩
  | false =>
    have HE0 : Hid (f.s.size ≠ 0) := emp_no h0
    have HC : Hid (Calls Tryz.prog 31 #[.slice (some ⟨w.heap.size + 1, 0, none⟩) 1 1] ((w.alloc (.cells #[.int .i64 f.c, .int .i64 f.r] 43)).alloc (.cells #[.int .i64 f.c, .int .i64 f.r, .string f.s] 45)) fun e w' => (∃ v, e = .returned v ∧ ∃ t, v = errV t ∧ SCk f t) ∧ Below w.heap.size w w') := (gcheck_any (some ⟨w.heap.size + 1, 0, none⟩) 1 [f] _ (by have := fm_new (w.alloc (.cells #[.int .i64 f.c, .int .i64 f.r] 43)) f; simpa using this) (hE.below hb1 hE.size)).mono (fun e w' ⟨⟨t, e1, e2⟩, e3⟩ => ⟨⟨_, e1, t, rfl, .inr ⟨HE0.out, e2⟩⟩, bnext hb1 e3 hb1.size⟩)
    clear hE hb0 hb1
    go_enter Tryz.func37, Tryz.ntmps37
    go_wp2_with fail
    refine HC.out.mono ?_
    rintro e w1 ⟨⟨v, rfl, hv⟩, hb⟩
    go_wp2_with fail
    go_ret
    obtain ⟨t, rfl, ht⟩ := hv
    exact ⟨⟨t, rfl, ht⟩, hb⟩
theorem ckT_le {s : ByteArray} (h : ckT s = 0) : s.size ≤ 200 := by
  by_cases h2 : 200 < s.size
  · rw [ckT_long h2] at h; cases h
  · omega
theorem told_one {f : Fl} {t : Int} (h : Told [f] t) : t = cd [f] 0 := by
  rcases h with ⟨h1, -⟩ | ⟨-, ⟨rfl, h⟩ | ⟨-, i, hi, rfl, -⟩⟩
  · simp at h1
  · exact (h 0 (by simp)).symm
  · obtain rfl : i = 0 := by simpa using hi
    rfl
end Go.Proofs.YtomgjjngkffbbaaGreatDoor.ps
namespace Go.Proofs.YtomgjjngkffbbaaGreatDoor.fw
open Go.RowKit Go.Sort
/-- What a text comes to that a cell is to have: a fault's number. -/
def ftx (s : ByteArray) : Int := if s.size = 0 then 0 else ps.ckT s
theorem sck_is {f : ps.Fl} {t : Int} (h : ps.SCk f t) : t = if adr.isC f.c f.r = true then ftx f.s else 1 := by
  unfold ftx
  rcases h with ⟨h1, rfl⟩ | ⟨h1, h2⟩
  · rw [if_pos h1]
  · rw [if_neg h1, ps.told_one h2]
    cases hc : adr.isC f.c f.r with
    | false => rw [ps.cd_range rfl hc, if_neg (by simp)]
    | true => rw [ps.cd_text rfl hc rfl, if_pos rfl]
theorem sck_zero {f : ps.Fl} {t : Int} (h : ps.SCk f t) : t = 0 ↔ adr.isC f.c f.r = true ∧ ftx f.s = 0 := by
  rw [sck_is h]
  cases adr.isC f.c f.r <;> simp
theorem ftx_le {s : ByteArray} (h : ftx s = 0) : s.size ≤ 200 := by
  unfold ftx at h
  split at h
  · omega
  · exact ps.ckT_le h
theorem fm_next {w w' : World} {p : Option Addr} {xs : List ps.Fl} (h : ps.FM w p xs) (hb : Bw w w') : ps.FM w' p xs := by
  rcases h with h | ⟨g, o, h1, h2, h3⟩
  · exact .inl h
  · exact .inr ⟨g, o, h1, Nat.lt_of_lt_of_le h2 hb.size, fun t u hu => by rw [hb.cell (p := ⟨g, _, none⟩) h2]; exact h3 t u hu⟩
theorem fm_at {w : World} {p : Option Addr} {xs : List ps.Fl} (h : ps.FM w p xs) {i : Nat} {x : ps.Fl} (hx : xs[i]? = some x) : ∃ g o, p = some ⟨g, o, none⟩ ∧ g < w.heap.size ∧ w.cell? ⟨g, o + i * 3, none⟩ = some (.int .i64 x.c) ∧ w.cell? ⟨g, o + i * 3 + 1, none⟩ = some (.int .i64 x.r) ∧ w.cell? ⟨g, o + i * 3 + 2, none⟩ = some (.string x.s) := by
  obtain ⟨g, o, rfl, hl⟩ := h.at hx
  exact ⟨g, o, rfl, hl, h.cells hx⟩
end Go.Proofs.YtomgjjngkffbbaaGreatDoor.fw
