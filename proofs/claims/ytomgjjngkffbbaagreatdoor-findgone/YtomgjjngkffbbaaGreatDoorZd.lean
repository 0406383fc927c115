
/- Cells held against each other; a list's copy. Conditions: as each theorem says. -/
import Derived.Test.YtomgjjngkffbbaaGreatDoorZc
namespace Go.Proofs.YtomgjjngkffbbaaGreatDoor.ps
open Go.RowKit
open adr (C)
abbrev FV (x : Fl) : Value := .agg #[.int .i64 x.c, .int .i64 x.r, .string x.s]
set_option maxRecDepth 100000 in
set_option maxHeartbeats 1600000 in
theorem less_any (a b c d : Int) (w : World) : Calls Tryz.prog 46 #[C a b, C c d] w fun e w' => e = .returned (.bool (decide (cmpC a b c d < 0))) ∧ Below w.heap.size w w' := by
  have HC : Hid (∀ wx, Calls Tryz.prog 42 #[C a b, C c d] wx fun e w' => e = .returned (.int .i64 (cmpC a b c d)) ∧ Below wx.heap.size wx w') := compare_any a b c d
  have hS := PC.start w a b c d
  obtain ⟨y0, y1, y2, y3, -⟩ := hS.opened
  generalize cmpC a b c d = q at *
  have HS : Hid (PC w a b c d ((w.alloc (.cells #[.int .i64 a, .int .i64 b] 43)).alloc (.cells #[.int .i64 c, .int .i64 d] 43))) := hS
  clear hS
  go_enter Tryz.func46, Tryz.ntmps46
  go_wp2_with fail
  refine (HC.out _).mono ?_
  rintro e w1 ⟨rfl, hb1⟩
  have HK : Hid (PC w a b c d w1) := HS.out.next hb1
  clear y0 y1 y2 y3 hb1 HS
  go_wp2_with fail
  go_ret
  exact ⟨rfl, HK.out.below⟩
theorem cells2 {W : World} {b : Nat} {a0 a1 : Value} {t : TypeId} (h : W.heap[b]? = some (.cells #[a0, a1] t (0, 0))) : W.cell? ⟨b, 0, none⟩ = some a0 ∧ W.cell? ⟨b, 1, none⟩ = some a1 := by
  constructor <;> simp [World.cell?, h]
theorem cells3 {W : World} {b : Nat} {a0 a1 a2 : Value} {t : TypeId} (h : W.heap[b]? = some (.cells #[a0, a1, a2] t (0, 0))) : W.cell? ⟨b, 0, none⟩ = some a0 ∧ W.cell? ⟨b, 1, none⟩ = some a1 ∧ W.cell? ⟨b, 2, none⟩ = some a2 := by
  refine ⟨?_, ?_, ?_⟩ <;> simp [World.cell?, h]
theorem two_new' (w : World) (o o' : Obj) : ((w.alloc o).alloc o').heap[w.heap.size]? = some o ∧ ((w.alloc o).alloc o').heap[w.heap.size + 1]? = some o' :=
  ⟨(Below.heap_alloc _ _ _ (by simp)).trans (heap_alloc_new _ _), by have := heap_alloc_new (w.alloc o) o'; simpa using this⟩
theorem eq_nil0 (b : Option Addr) (n c : Nat) (W : World) : (Op.equal 22 (.slice b n c) (.slice none 0 0)).run Tryz.prog W = .ok b.isNone W := by
  unfold Op.equal
  rw [show Op.maxDepth = Op.maxDepth - 1 + 1 from rfl]
  unfold Op.equalIn
  cases b <;> simp [go_sem]
theorem eql_nil (b : Option Addr) (n c : Nat) (W : World) : (binOp BinOp.eql 22 (.slice b n c) (.slice none 0 0)).run Tryz.prog W = .ok (.bool b.isNone) W := by
  simp [binOp, go_sem, eq_nil0 b n c W]
end Go.Proofs.YtomgjjngkffbbaaGreatDoor.ps
