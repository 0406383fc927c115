/- Cells held against each other; a list's copy. Conditions: as each theorem says. -/
import Derived.Test.YtpgjmbbdhilhkaaGreatDoorZc
namespace Go.Proofs.YtpgjmbbdhilhkaaGreatDoor.ps
open Go.RowKit
open adr (C)
abbrev FV (x : Fl) : Value := .agg #[.int .i64 x.c, .int .i64 x.r, .string x.s]
set_option maxRecDepth 100000 in
set_option maxHeartbeats 1600000 in
theorem less_any (a b c d : Int) (w : World) : Calls Tryz.prog 22 #[C a b, C c d] w fun e w' => e = .returned (.bool (decide (cmpC a b c d < 0))) ∧ Below w.heap.size w w' := by
  have HC : Hid (∀ wx, Calls Tryz.prog 28 #[C a b, C c d] wx fun e w' => e = .returned (.int .i64 (cmpC a b c d)) ∧ Below wx.heap.size wx w') := compare_any a b c d
  have hS := PC.start w a b c d
  obtain ⟨y0, y1, y2, y3, -⟩ := hS.opened
  generalize cmpC a b c d = q at *
  have HS : Hid (PC w a b c d ((w.alloc (.cells #[.int .i64 a, .int .i64 b] 30)).alloc (.cells #[.int .i64 c, .int .i64 d] 30))) := hS
  clear hS
  go_enter Tryz.func22, Tryz.ntmps22
  go_wp2_with fail
  refine (HC.out _).mono ?_
  rintro e w1 ⟨rfl, hb1⟩
  have HK : Hid (PC w a b c d w1) := HS.out.next hb1
  clear y0 y1 y2 y3 hb1 HS
  go_wp2_with fail
  go_ret
  exact ⟨rfl, HK.out.below⟩
theorem cells2 {W : World} {b : Nat} {a0 a1 : Value} {t : TypeId} (h : W.heap[b]? = some (.cells #[a0, a1] t (0, 0))) : W.cell? ⟨b, 0, none⟩ = some a0 ∧ W.cell? ⟨b, 1, none⟩ = some a1 := by
  constructor <;> simp [World.cell?, h]
theorem cells3 {W : World} {b : Nat} {a0 a1 a2 : Value} {t : TypeId} (h : W.heap[b]? = some (.cells #[a0, a1, a2] t (0, 0))) : W.cell? ⟨b, 0, none⟩ = some a0 ∧ W.cell? ⟨b, 1, none⟩ = some a1 ∧ W.cell? ⟨b, 2, none⟩ = some a2 := by
  refine ⟨?_, ?_, ?_⟩ <;> simp [World.cell?, h]
theorem two_new' (w : World) (o o' : Obj) : ((w.alloc o).alloc o').heap[w.heap.size]? = some o ∧ ((w.alloc o).alloc o').heap[w.heap.size + 1]? = some o' :=
  ⟨(Below.heap_alloc _ _ _ (by simp)).trans (heap_alloc_new _ _), by have := heap_alloc_new (w.alloc o) o'; simpa using this⟩
set_option maxRecDepth 100000 in
set_option maxHeartbeats 1600000 in
theorem cmpF_any (x : Fl) (c r : Int) (w : World) : Calls Tryz.prog 34 #[FV x, C c r] w fun e w' => e = .returned (.int .i64 (cmpC x.c x.r c r)) ∧ Below w.heap.size w w' := by
  obtain ⟨xc, xr, xs⟩ := x
  dsimp only [FV]
  have HC : Hid (∀ wx, Calls Tryz.prog 28 #[C xc xr, C c r] wx fun e w' => e = .returned (.int .i64 (cmpC xc xr c r)) ∧ Below wx.heap.size wx w') := compare_any xc xr c r
  obtain ⟨h1, h2⟩ := two_new' w (.cells #[.int .i64 xc, .int .i64 xr, .string xs] 33) (.cells #[.int .i64 c, .int .i64 r] 30)
  obtain ⟨y0, y1, y4⟩ := cells3 h1
  obtain ⟨y2, y3⟩ := cells2 h2
  have HB : Hid (Below w.heap.size w ((w.alloc (.cells #[.int .i64 xc, .int .i64 xr, .string xs] 33)).alloc (.cells #[.int .i64 c, .int .i64 r] 30))) := ((Below.refl _ _).alloc (Nat.le_refl _) _).alloc (by simp) _
  generalize cmpC xc xr c r = q at *
  clear h1 h2
  go_enter Tryz.func34, Tryz.ntmps34
  go_wp2_with fail
  refine (HC.out _).mono ?_
  rintro e w1 ⟨rfl, hb1⟩
  have HK : Hid (Below w.heap.size w w1) := bnext HB.out hb1 HB.out.size
  clear y0 y1 y2 y3 y4 hb1
  go_wp2_with fail
  go_ret
  exact ⟨rfl, HK.out⟩
theorem eq_nil0 (b : Option Addr) (n c : Nat) (W : World) : (Op.equal 22 (.slice b n c) (.slice none 0 0)).run Tryz.prog W = .ok b.isNone W := by
  unfold Op.equal
  rw [show Op.maxDepth = Op.maxDepth - 1 + 1 from rfl]
  unfold Op.equalIn
  cases b <;> simp [go_sem]
theorem eql_nil (b : Option Addr) (n c : Nat) (W : World) : (binOp BinOp.eql 22 (.slice b n c) (.slice none 0 0)).run Tryz.prog W = .ok (.bool b.isNone) W := by
  simp [binOp, go_sem, eq_nil0 b n c W]
set_option maxRecDepth 100000 in
set_option maxHeartbeats 1600000 in
theorem clone_any (p : Option Addr) (c : Nat) (xs : List Fl) (w : World) (h : FM w p xs) (hl : xs.length ≤ 1000) (hc : p = none → c = 0) : Calls Tryz.prog 15 #[.slice p xs.length c] w fun e w' => (∃ v, e = .returned v ∧ w'.ownsRow w.heap.size 33 3 v xs.length (flF xs)) ∧ Below w.heap.size w w' := by
  cases p with
  | none =>
    have hx : xs = [] := by
      rcases h with h | ⟨g, o, e, -⟩
      · exact h
      · cases e
    subst hx
    obtain rfl := hc rfl
    have q0 := eql_nil none 0 0 w
    go_enter Tryz.func15, Tryz.ntmps15
    go_wp2_with fail
    go_ret
    exact ⟨⟨_, rfl, World.ownsRow_nil _ _ _ _⟩, Below.refl _ _⟩
  | some a =>
    have hb0 : Below w.heap.size w (w.alloc (.cells #[] 33)) := (Below.refl _ _).alloc (Nat.le_refl _) _
    obtain ⟨v', w1, hr, ho, hb, -, -, -⟩ := app_many (w.alloc (.cells #[] 33)) w.heap.size (by simp) (.slice (some ⟨w.heap.size, 0, none⟩) 0 0) 0 [] (World.ownsRow_made (base := w.heap.size) (e := 33) (size := 3) w #[] 0 (Nat.le_refl _) (Nat.zero_le _) rfl) (by omega) (some a) xs c (h.below hb0) hl
    have HR : Hid ((Builtin.append_ #[22, 22] 22 #[.slice (some ⟨w.heap.size, 0, none⟩) 0 0, .slice (some a) xs.length c]).run Tryz.prog (w.alloc (.cells #[] 33)) = .ok v' w1) := hr
    have HO : Hid (w1.ownsRow w.heap.size 33 3 v' xs.length (flF xs)) := by have := ho; unfold Hid; simpa using this
    have HB : Hid (Below w.heap.size w w1) := hb0.trans hb
    clear hr ho hb hb0 h
    generalize xs.length = n at *
    generalize flF xs = cs at *
    have q0 := eql_nil (some a) n c w
    go_enter Tryz.func15, Tryz.ntmps15
    go_wp2_with (first | (at_builtin; refine fm.wpList_append_eq rfl _ _ 22 rfl _ _ _ _ rfl rfl HR.out ?_))
    go_ret
    exact ⟨⟨_, rfl, HO.out⟩, HB.out⟩
end Go.Proofs.YtpgjmbbdhilhkaaGreatDoor.ps
