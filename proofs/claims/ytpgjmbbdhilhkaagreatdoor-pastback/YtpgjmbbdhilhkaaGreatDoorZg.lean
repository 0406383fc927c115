/- A cell's text in a list; a list of one, put in order. Conditions: as each theorem says. -/
import Derived.Test.YtpgjmbbdhilhkaaGreatDoorZf
namespace Go.Proofs.YtpgjmbbdhilhkaaGreatDoor.ps
open Go.RowKit
open adr (C)
set_option maxRecDepth 100000 in
set_option maxHeartbeats 4000000 in
theorem text_any (p : Option Addr) (c : Nat) (xs : List Fl) (c0 r0 : Int) (w : World) (hx : FM w p xs) (hl : xs.length ≤ 300) (hs : Srt xs) :
    Calls Tryz.prog 24 #[.slice p xs.length c, C c0 r0] w fun e w' => e = .returned (.string (txt xs c0 r0)) ∧ Below w.heap.size w w' := by
  have hb0 : Below w.heap.size w (w.alloc (.cells #[.int .i64 c0, .int .i64 r0] 30)) := (Below.refl _ _).alloc (Nat.le_refl _) _
  have HB0 : Hid (Below w.heap.size w (w.alloc (.cells #[.int .i64 c0, .int .i64 r0] 30))) := hb0
  have HX : Hid (FM w p xs) := hx
  have HSr : Hid (Srt xs) := hs
  have HBS : Hid (∀ wx, Below w.heap.size w wx → Calls Tryz.prog 33 #[.slice p xs.length c, C c0 r0, .func (.func 34) #[] #[]] wx fun e w' => ∃ (i : Nat) (b : Bool), e = .returned (.tuple #[.int .i64 i, .bool b]) ∧ i ≤ xs.length ∧ (b = true → ∃ x, xs[i]? = some x ∧ at' x c0 r0 = true) ∧ (b = false → ∀ x ∈ xs, at' x c0 r0 = false) ∧ Below wx.heap.size wx w') := fun wx hb => bs_any p c xs c0 r0 wx (HX.out.below hb) hl HSr.out
  have hn3 : (xs.length : Int) ≤ 300 := by omega
  obtain ⟨n, hn⟩ : ∃ n, xs.length = n := ⟨_, rfl⟩
  have HN : Hid (xs.length = n) := hn
  rw [hn] at HBS hn3 ⊢
  clear hx hs hl hb0 hn
  go_enter Tryz.func24, Tryz.ntmps24
  go_wp2_with fail
  refine (HBS.out _ HB0.out).mono ?_
  rintro e w1 ⟨i, b, rfl, hi, hy, hno, hb1⟩
  have HB1 : Hid (Below w.heap.size w w1) := bnext HB0.out hb1 HB0.out.size
  cases b with
  | false =>
    have HT : Hid (txt xs c0 r0 = nul) := txt_none (hno rfl)
    clear hno hy hb1
    go_wp2_with fail
    go_ret
    exact ⟨by rw [HT.out]; rfl, HB1.out⟩
  | true =>
    obtain ⟨x, hx, ha⟩ := hy rfl
    obtain ⟨g, o, rfl, hg⟩ := HX.out.at hx
    obtain ⟨y0, y1, y2⟩ := FM.cells (HX.out.below HB1.out) hx
    have hlt : (i : Int) < (n : Int) := by have := (List.getElem?_eq_some_iff.1 hx).1; have := HN.out; omega
    have hi0 : (0 : Int) ≤ (i : Int) := by omega
    have HT : Hid (txt xs c0 r0 = x.s) := by
      have := txt_at HSr.out hx
      rw [(at_iff.1 ha).1, (at_iff.1 ha).2] at this
      exact this
    clear hno hy hb1 ha
    go_wp2_with fail
    go_ret
    exact ⟨by rw [HT.out]; rfl, HB1.out⟩
set_option maxHeartbeats 1600000 in
theorem reverse1 (p : Option Addr) (c : Nat) (w : World) : Calls Tryz.prog 25 #[.slice p 1 c] w fun e w' => (∃ v, e = .returned v) ∧ w' = w := by
  go_enter Tryz.func25, Tryz.ntmps25
  go_wp2_with fail
  go_loopw [2, 3] (fun a b wr => a = .int .i64 0 ∧ b = .int .i64 0 ∧ wr = w) (fun _ _ _ => 0)
  case atStart => exact ⟨rfl, rfl, rfl⟩
  case round =>
    obtain ⟨rfl, rfl, rfl⟩ := hrel
    go_wp2_with fail
    go_end0
    exact ⟨⟨_, rfl⟩, rfl⟩
set_option maxHeartbeats 1600000 in
theorem insert1 (p : Option Addr) (c : Nat) (f : Value) (w : World) : Calls Tryz.prog 40 #[.slice p 1 c, .int .i64 0, .int .i64 1, f] w fun e w' => (∃ v, e = .returned v) ∧ w' = w := by
  go_enter Tryz.func40, Tryz.ntmps40
  go_wp2_with fail
  go_loopw [8] (fun a wr => a = .int .i64 1 ∧ wr = w) (fun _ _ => 0)
  case atStart => exact ⟨rfl, rfl⟩
  case round =>
    obtain ⟨rfl, rfl⟩ := hrel
    go_wp2_with fail
    go_end0
    exact ⟨⟨_, rfl⟩, rfl⟩
set_option maxHeartbeats 1600000 in
theorem stable1 (p : Option Addr) (c : Nat) (f : Value) (w : World) : Calls Tryz.prog 35 #[.slice p 1 c, .int .i64 1, f] w fun e w' => (∃ v, e = .returned v) ∧ w' = w := by
  have HI : Hid (∀ wx, Calls Tryz.prog 40 #[.slice p 1 c, .int .i64 0, .int .i64 1, f] wx fun e w' => (∃ v, e = .returned v) ∧ w' = wx) := insert1 p c f
  go_enter Tryz.func35, Tryz.ntmps35
  go_wp2_with fail
  go_loopw [7, 8] (fun a b wr => a = .int .i64 0 ∧ b = .int .i64 20 ∧ wr = w) (fun _ _ _ => 0)
  case atStart => exact ⟨rfl, rfl, rfl⟩
  case round =>
    obtain ⟨rfl, rfl, rfl⟩ := hrel
    go_wp2_with fail
    refine (HI.out _).mono ?_
    rintro e w1 ⟨⟨v, rfl⟩, rfl⟩
    go_wp2_with fail
    go_loopw [6] (fun a wr => a = .int .i64 20 ∧ wr = w1) (fun _ _ => 0)
    case atStart => exact ⟨rfl, rfl⟩
    case round =>
      obtain ⟨rfl, rfl⟩ := hrel
      go_wp2_with fail
      go_end0
      exact ⟨⟨_, rfl⟩, rfl⟩
set_option maxHeartbeats 1600000 in
theorem sort1 (p : Option Addr) (c : Nat) (f : Value) (w : World) : Calls Tryz.prog 26 #[.slice p 1 c, f] w fun e w' => (∃ v, e = .returned v) ∧ w' = w := by
  have HI : Hid (∀ wx, Calls Tryz.prog 35 #[.slice p 1 c, .int .i64 1, f] wx fun e w' => (∃ v, e = .returned v) ∧ w' = wx) := stable1 p c f
  go_enter Tryz.func26, Tryz.ntmps26
  go_wp2_with fail
  refine (HI.out _).mono ?_
  rintro e w1 ⟨⟨v, rfl⟩, rfl⟩
  go_wp2_with fail
  go_end0
  exact ⟨⟨_, rfl⟩, rfl⟩
set_option maxHeartbeats 1600000 in
theorem compact1 (p : Option Addr) (c : Nat) (f : Value) (w : World) : Calls Tryz.prog 29 #[.slice p 1 c, f] w fun e w' => e = .returned (.slice p 1 c) ∧ w' = w := by
  go_enter Tryz.func29, Tryz.ntmps29
  go_wp2_with fail
  go_ret
  exact ⟨rfl, rfl⟩
set_option maxHeartbeats 1600000 in
theorem lastOf1 (g o c : Nat) (f : Fl) (w : World) (hf : FM w (some ⟨g, o, none⟩) [f]) : Calls Tryz.prog 19 #[.slice (some ⟨g, o, none⟩) 1 c] w fun e w' => ∃ g' c', e = .returned (.slice (some ⟨g', 0, none⟩) 1 c') ∧ FM w' (some ⟨g', 0, none⟩) [f] ∧ Below w.heap.size w w' := by
  have HC : Hid (Calls Tryz.prog 15 #[.slice (some ⟨g, o, none⟩) 1 c] w fun e w' => (∃ v, e = .returned v ∧ w'.ownsRow w.heap.size 33 3 v 1 (flF [f])) ∧ Below w.heap.size w w') := clone_any (some ⟨g, o, none⟩) c [f] w hf (by simp) (fun e => by cases e)
  have H1 : Hid (∀ p c wx, Calls Tryz.prog 25 #[.slice p 1 c] wx fun e w' => (∃ v, e = .returned v) ∧ w' = wx) := reverse1
  have H2 : Hid (∀ p c f wx, Calls Tryz.prog 26 #[.slice p 1 c, f] wx fun e w' => (∃ v, e = .returned v) ∧ w' = wx) := sort1
  have H3 : Hid (∀ p c f wx, Calls Tryz.prog 29 #[.slice p 1 c, f] wx fun e w' => e = .returned (.slice p 1 c) ∧ w' = wx) := compact1
  clear hf
  go_enter Tryz.func19, Tryz.ntmps19
  go_wp2_with fail
  refine HC.out.mono ?_
  rintro e w1 ⟨⟨v, rfl, ho⟩, hb1⟩
  obtain ⟨g', c', rfl, hfm⟩ : ∃ g' c', v = .slice (some ⟨g', 0, none⟩) 1 c' ∧ FM w1 (some ⟨g', 0, none⟩) [f] := by
    have hF : FB w1 v [f] := own_base ho (Nat.zero_le _)
    obtain ⟨p, c', rfl, hm⟩ := hF.shape
    rcases ho.2 with ⟨-, h0⟩ | ⟨g', cap, cur, e, -⟩
    · cases h0
    · injection e with e1 e2 e3
      subst e1
      exact ⟨g', c', rfl, hm⟩
  have HK : Hid (FM w1 (some ⟨g', 0, none⟩) [f] ∧ Below w.heap.size w w1) := ⟨hfm, hb1⟩
  clear ho hfm hb1
  go_wp2_with fail
  refine (H1.out _ _ _).mono ?_
  rintro e w2 ⟨⟨v, rfl⟩, rfl⟩
  go_wp2_with fail
  refine (H2.out _ _ _ _).mono ?_
  rintro e w3 ⟨⟨v, rfl⟩, rfl⟩
  go_wp2_with fail
  refine (H3.out _ _ _ _).mono ?_
  rintro e w4 ⟨rfl, rfl⟩
  go_wp2_with fail
  go_ret
  exact ⟨g', c', rfl, HK.out.1, HK.out.2⟩
end Go.Proofs.YtpgjmbbdhilhkaaGreatDoor.ps
