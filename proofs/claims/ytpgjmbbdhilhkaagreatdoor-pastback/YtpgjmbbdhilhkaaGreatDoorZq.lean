/- Packages graph, sheet, past: Check, Check of one text, New. Conditions: as each theorem says. -/
import Derived.Test.YtpgjmbbdhilhkaaGreatDoorZp
namespace Go.Proofs.YtpgjmbbdhilhkaaGreatDoor.ps
open Go.RowKit
open adr (C isC ckc)
set_option maxHeartbeats 1600000 in
theorem gcheck_any (p : Option Addr) (c : Nat) (xs : List Fl) (w : World) (hx : FM w p xs) (hE : EnvP w) :
    Calls Tryz.prog 14 #[.slice p xs.length c] w fun e w' => (∃ v, e = .returned v ∧ FS xs v) ∧ Below w.heap.size w w' := by
  have H : Hid (Calls Tryz.prog 21 #[.slice p xs.length c] w fun e w' => (∃ vl v, e = .returned (.tuple #[vl, v]) ∧ FS xs v) ∧ Below w.heap.size w w') := formulas_any p c xs w hx hE
  clear hx hE
  go_enter Tryz.func14, Tryz.ntmps14
  go_wp2_with fail
  refine H.out.mono ?_
  rintro e w1 ⟨⟨vl, v, rfl, hv⟩, hb⟩
  go_wp2_with fail
  go_ret
  exact ⟨⟨v, rfl, hv⟩, hb⟩
set_option maxHeartbeats 1600000 in
theorem scheck_any (f : Fl) (w : World) (hE : EnvP w) :
    Calls Tryz.prog 17 #[C f.c f.r, .string f.s] w fun e w' => (∃ v, e = .returned v ∧ (v = .nilIface ∨ (¬ OKs [f] ∧ ∃ t x, v = .iface t x))) ∧ Below w.heap.size w w' := by
  have hb0 : Below w.heap.size w (w.alloc (.cells #[.int .i64 f.c, .int .i64 f.r] 30)) := (Below.refl _ _).alloc (Nat.le_refl _) _
  have hb1 : Below w.heap.size w ((w.alloc (.cells #[.int .i64 f.c, .int .i64 f.r] 30)).alloc (.cells #[.int .i64 f.c, .int .i64 f.r, .string f.s] 33)) := hb0.alloc (by simp) _
  cases h0 : f.s.toList.isEmpty with
  | true =>
    have HE0 : Hid (f.s.size = 0) := emp_yes h0
    have HC : Hid (Calls Tryz.prog 23 #[C f.c f.r] (w.alloc (.cells #[.int .i64 f.c, .int .i64 f.r] 30)) fun e w' => (∃ v, e = .returned v ∧ (v = .nilIface ∨ (¬ OKs [f] ∧ ∃ t x, v = .iface t x))) ∧ Below w.heap.size w w') := (adr.check_any f.c f.r _).mono (fun e w' ⟨e1, e2⟩ => ⟨⟨_, e1, by
      cases isC f.c f.r with
      | true => exact .inl rfl
      | false => exact .inr ⟨fun ho => (ho.2.2 f (by simp)).2.1 HE0.out, _, _, rfl⟩⟩, bnext hb0 e2 hb0.size⟩)
    clear hE hb0 hb1
    go_enter Tryz.func17, Tryz.ntmps17
    go_wp2_with fail
    refine HC.out.mono ?_
    rintro e w1 ⟨⟨v, rfl, hv⟩, hb⟩
    go_wp2_with fail
    go_ret
    exact ⟨⟨v, rfl, hv⟩, hb⟩
  | false =>
    have HC : Hid (Calls Tryz.prog 14 #[.slice (some ⟨w.heap.size + 1, 0, none⟩) 1 1] ((w.alloc (.cells #[.int .i64 f.c, .int .i64 f.r] 30)).alloc (.cells #[.int .i64 f.c, .int .i64 f.r, .string f.s] 33)) fun e w' => (∃ v, e = .returned v ∧ (v = .nilIface ∨ (¬ OKs [f] ∧ ∃ t x, v = .iface t x))) ∧ Below w.heap.size w w') := (gcheck_any (some ⟨w.heap.size + 1, 0, none⟩) 1 [f] _ (by have := fm_new (w.alloc (.cells #[.int .i64 f.c, .int .i64 f.r] 30)) f; simpa using this) (hE.below hb1 hE.size)).mono (fun e w' ⟨⟨v, e1, e2⟩, e3⟩ => ⟨⟨v, e1, e2.imp (fun h => h.1) (fun h => ⟨h.2, h.1⟩)⟩, bnext hb1 e3 hb1.size⟩)
    clear hE hb0 hb1
    go_enter Tryz.func17, Tryz.ntmps17
    go_wp2_with fail
    refine HC.out.mono ?_
    rintro e w1 ⟨⟨v, rfl, hv⟩, hb⟩
    go_wp2_with fail
    go_ret
    exact ⟨⟨v, rfl, hv⟩, hb⟩
/-- What New answers. -/
def NW (w : World) (xs : List Fl) (ptr v : Value) (w' : World) : Prop := ((∃ t x, v = .iface t x) ∧ ¬ OKs xs) ∨ (v = .nilIface ∧ xs.length ≤ 200 ∧ Srt xs ∧ Ful xs ∧ ∃ bp vn, ptr = .pointer (some ⟨bp, 0, none⟩) ∧ w.heap.size ≤ bp ∧ PS w' bp xs [] 0 vn (.slice none 0 0))
set_option maxHeartbeats 1600000 in
theorem new_any (p : Option Addr) (c : Nat) (xs : List Fl) (w : World) (hx : FM w p xs) (hE : EnvP w) (hc : p = none → c = 0) :
    Calls Tryz.prog 5 #[.slice p xs.length c] w fun e w' => (∃ ptr v, e = .returned (.tuple #[ptr, v]) ∧ NW w xs ptr v w') ∧ Below w.heap.size w w' := by
  have H : Hid (Calls Tryz.prog 14 #[.slice p xs.length c] w fun e w' => (∃ v, e = .returned v ∧ FS xs v) ∧ Below w.heap.size w w') := gcheck_any p c xs w hx hE
  have HX : Hid (FM w p xs) := hx
  clear hx hE
  go_enter Tryz.func5, Tryz.ntmps5
  go_wp2_with fail
  refine H.out.mono ?_
  rintro e w1 ⟨⟨v, rfl, hv⟩, hb⟩
  have HB : Hid (Below w.heap.size w w1) := hb
  clear hb
  rcases hv with ⟨rfl, h1, h2, h3⟩ | ⟨⟨t, x, rfl⟩, hno⟩
  · have HC : Hid (Calls Tryz.prog 15 #[.slice p xs.length c] w1 fun e w' => (∃ v, e = .returned v ∧ w'.ownsRow w1.heap.size 33 3 v xs.length (flF xs)) ∧ Below w1.heap.size w1 w') := clone_any p c xs w1 (HX.out.below HB.out) (by omega) hc
    have HK : Hid (xs.length ≤ 200 ∧ Srt xs ∧ Ful xs) := ⟨h1, h2, h3⟩
    clear h1 h2 h3
    go_wp2_with fail
    refine HC.out.mono ?_
    rintro e w2 ⟨⟨v, rfl, ho⟩, hb2⟩
    have hF : FB w2 v xs := own_base ho (Nat.zero_le _)
    obtain ⟨pv, cv, rfl, -⟩ := hF.full
    have HF : Hid (FB w2 (.slice pv xs.length cv) xs ∧ Below w.heap.size w w2) := ⟨hF, bnext HB.out hb2 HB.out.size⟩
    clear ho hF hb2
    go_wp2_with fail
    refine bodyPost_ret (v := .tuple #[.pointer (some ⟨w2.heap.size, 0, none⟩), .nilIface]) (by simp [results, Tryz.results5, go_sem]) rfl ⟨⟨_, _, rfl, .inr ⟨rfl, HK.out.1, HK.out.2.1, HK.out.2.2, _, .slice pv xs.length cv, rfl, HF.out.2.size, ?_⟩⟩, HF.out.2.alloc HF.out.2.size _⟩
    exact ⟨heap_alloc_new _ _, HF.out.1.below ((Below.refl _ _).alloc (Nat.le_refl _) _), ⟨rfl, .inl ⟨rfl, rfl⟩⟩, fun s hs => by cases hs⟩
  · go_wp2_with fail
    exact bodyPost_ret (v := .tuple #[.pointer none, .iface t x]) (by simp [results, Tryz.results5, go_sem]) rfl ⟨⟨_, _, rfl, .inl ⟨⟨_, _, rfl⟩, hno⟩⟩, HB.out⟩
end Go.Proofs.YtpgjmbbdhilhkaaGreatDoor.ps
