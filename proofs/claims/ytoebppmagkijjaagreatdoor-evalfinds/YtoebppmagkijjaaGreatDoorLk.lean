/- Package eval: is a value equal to another one? Conditions: as each theorem says. -/
import Derived.Test.YtoebppmagkijjaaGreatDoorLe
import Derived.Test.YtoebppmagkijjaaGreatDoorLy
import Derived.Laws.StructEq
namespace Go.Proofs.YtoebppmagkijjaaGreatDoor.ev
open Go.RowKit
/-- What Equal says of two values. -/
def eqT (k n : Int) (s : ByteArray) (k' n' : Int) (s' : ByteArray) : Bool := if k = 4 ∨ k' = 4 then false else vv.cmpB k n s k' n' s' == 0
theorem three (w : World) (a b d : Obj) : (((w.alloc a).alloc b).alloc d).heap[w.heap.size]? = some a ∧ (((w.alloc a).alloc b).alloc d).heap[w.heap.size + 1]? = some b ∧ (((w.alloc a).alloc b).alloc d).heap[w.heap.size + 1 + 1]? = some d ∧ Below w.heap.size w (((w.alloc a).alloc b).alloc d) := by
  obtain ⟨h1, h2⟩ := two_new w a b
  have hb : Below ((w.alloc a).alloc b).heap.size ((w.alloc a).alloc b) (((w.alloc a).alloc b).alloc d) := (Below.refl _ _).alloc (Nat.le_refl _) _
  refine ⟨(hb.block _ (fm.lt_blk h1)).trans h1, (hb.block _ (fm.lt_blk h2)).trans h2, ?_, (((Below.refl _ _).alloc (Nat.le_refl _) _).alloc (by simp) _).alloc (by simp; omega) _⟩
  rw [show w.heap.size + 1 + 1 = ((w.alloc a).alloc b).heap.size by simp]
  exact heap_alloc_new _ _
set_option maxRecDepth 100000 in
set_option maxHeartbeats 4000000 in
theorem two1 (k n : Int) (s : ByteArray) (k' n' : Int) (s' : ByteArray) (rk rn : Int) (rs : ByteArray) (HC : Hid (∀ wx, Calls Tryz.prog 81 #[.int .i64 1, VV k n s, VV k' n' s'] wx fun e w' => e = .returned (VV rk rn rs) ∧ Below wx.heap.size wx w')) (w : World) :
    Calls Tryz.prog 49 #[.int .i64 1, VV k n s, VV k' n' s'] w fun e w' => e = .returned (VV rk rn rs) ∧ Below w.heap.size w w' := by
  obtain ⟨hA, hB, hR, hbW⟩ := three w (.cells #[.int .i64 k, .int .i64 n, .string s] 31) (.cells #[.int .i64 k', .int .i64 n', .string s'] 31) (.cells #[.int .i64 0, .int .i64 0, .string nul] 31)
  obtain ⟨a0, a1, a2⟩ := cells3v hA
  obtain ⟨b0, b1, b2⟩ := cells3v hB
  have HR : Hid (∀ wx, Below (((w.alloc (.cells #[.int .i64 k, .int .i64 n, .string s] 31)).alloc (.cells #[.int .i64 k', .int .i64 n', .string s'] 31)).alloc (.cells #[.int .i64 0, .int .i64 0, .string nul] 31)).heap.size (((w.alloc (.cells #[.int .i64 k, .int .i64 n, .string s] 31)).alloc (.cells #[.int .i64 k', .int .i64 n', .string s'] 31)).alloc (.cells #[.int .i64 0, .int .i64 0, .string nul] 31)) wx → wx.heap[w.heap.size + 1 + 1]? = some (.cells #[.int .i64 0, .int .i64 0, .string nul] 31 (0, 0)) ∧ Below w.heap.size w wx) := fun wx h => ⟨(h.block _ (fm.lt_blk hR)).trans hR, bnext hbW h hbW.size⟩
  clear hA hB hR hbW
  go_enter Tryz.func49, Tryz.ntmps49
  go_wp2_with fail
  refine (HC.out _).mono ?_
  clear a0 a1 a2 b0 b1 b2
  rintro e w1 ⟨rfl, hb1⟩
  obtain ⟨hq1, hb2⟩ := HR.out w1 hb1
  have HB : Hid (Below w.heap.size w w1) := hb2
  obtain ⟨c0, c1, c2⟩ := cells3v hq1
  have f0 : ∀ o, w1.frozen? ⟨w.heap.size + 1 + 1, o, none⟩ = false := frz hq1
  have HQ1 : Hid (w1.heap[w.heap.size + 1 + 1]? = some (.cells #[.int .i64 0, .int .i64 0, .string nul] 31 (0, 0))) := hq1
  clear hq1 hb1 hb2 HR HC
  go_wp2_with fail
  refine fin3 HQ1.out (Q := bodyPost _ _ _ _ _) ?_
  clear c0 c1 c2 f0
  intro w2 hq2 hk2
  obtain ⟨d0, d1, d2⟩ := cells3v hq2
  exact bodyPost_ret (v := VV rk rn rs) (by simp [results, Tryz.results49, go_sem, d0, d1, d2]) rfl ⟨rfl, HB.out.trans (hk2 _ (by omega))⟩
/-- How what Equal says is shown: as a truth, or as what is bad. -/
theorem two1_any (k n : Int) (s : ByteArray) (k' n' : Int) (s' : ByteArray) : ∃ rk rn rs, (∀ w, Calls Tryz.prog 49 #[.int .i64 1, VV k n s, VV k' n' s'] w fun e w' => e = .returned (VV rk rn rs) ∧ Below w.heap.size w w') ∧ ((rk = 3 ∧ rn = b2I (eqT k n s k' n' s') ∧ rs = nul) ∨ (rk = 4 ∧ eqT k n s k' n' s' = false)) := by
  by_cases h : k = 4
  · subst h
    exact ⟨4, n, s, two1 _ _ _ _ _ _ _ _ _ (fun wx => vv.hold_a 1 n s k' n' s' wx), .inr ⟨rfl, if_pos (.inl rfl)⟩⟩
  · by_cases h' : k' = 4
    · subst h'
      exact ⟨4, n', s', two1 _ _ _ _ _ _ _ _ _ (fun wx => vv.hold_b 1 k n s n' s' wx (beq_eq_false_iff_ne.2 h)), .inr ⟨rfl, if_pos (.inr rfl)⟩⟩
    · refine ⟨3, b2I (eqT k n s k' n' s'), nul, two1 _ _ _ _ _ _ _ _ _ (fun wx => ?_), .inl ⟨rfl, rfl, rfl⟩⟩
      have := vv.hold_1 k n s k' n' s' wx (beq_eq_false_iff_ne.2 h) (beq_eq_false_iff_ne.2 h')
      rw [show eqT k n s k' n' s' = (vv.cmpB k n s k' n' s' == 0) from if_neg (by simp [h, h'])]
      exact this
theorem eqIn31g (k n : Int) (s : ByteArray) (k' n' : Int) (s' : ByteArray) (W : World) : (Op.equalIn 10000 31 (VV k n s) (VV k' n' s')).run Tryz.prog W = .ok (k == k' && n == n' && s.toList == s'.toList) W := by
  have hS : Tryz.prog.underlying 31 = some (.struct (Tryz.prog.fieldsOf 31)) := by kernel_rfl
  have hp : Tryz.prog.stoodInHeld 31 = false := by kernel_rfl
  rw [run_equalIn_struct W 9999 31 _ _ hS hp]
  simp only [Program.fieldsOf, Tryz.underlying31]
  by_cases h1 : k = k' <;> by_cases h2 : n = n' <;> by_cases h3 : s.toList = s'.toList <;> simp [Op.eqFields, go_sem, h1, h2, h3]
theorem eql31g (k n : Int) (s : ByteArray) (k' n' : Int) (s' : ByteArray) (W : World) : (binOp BinOp.eql 31 (VV k n s) (VV k' n' s')).run Tryz.prog W = .ok (.bool (k == k' && n == n' && s.toList == s'.toList)) W := by
  rw [run_eql_struct, eqIn31g]; rfl
theorem neq31g (k n : Int) (s : ByteArray) (k' n' : Int) (s' : ByteArray) (W : World) : (binOp BinOp.neq 31 (VV k n s) (VV k' n' s')).run Tryz.prog W = .ok (.bool (!(k == k' && n == n' && s.toList == s'.toList))) W := by
  rw [run_neq_struct, eqIn31g]; rfl
/-- A value in a block that a closure holds. -/
def Cap (w : World) (p : Nat) (k n : Int) (s : ByteArray) : Prop := w.heap[p]? = some (.cells #[.int .i64 k, .int .i64 n, .string s] 31 (0, 0))
theorem Cap.next {w w' : World} {p : Nat} {k n : Int} {s : ByteArray} (h : Cap w p k n s) (hb : Below w.heap.size w w') : Cap w' p k n s := (hb.block _ (fm.lt_blk h)).trans h
theorem equalTo_any (k n : Int) (s : ByteArray) (w : World) :
    Calls Tryz.prog 254 #[VV k n s] w fun e w' => ∃ p, e = .returned (.func (.func 273) #[] #[.pointer (some ⟨p, 0, none⟩)]) ∧ Cap w' p k n s ∧ Below w.heap.size w w' := by
  go_enter Tryz.func254, Tryz.ntmps254
  go_wp2_with fail
  go_ret
  exact ⟨w.heap.size, rfl, heap_alloc_new _ _, (Below.refl _ _).alloc (Nat.le_refl _) _⟩
set_option maxRecDepth 100000 in
set_option maxHeartbeats 4000000 in
theorem wanted_t (k n : Int) (s : ByteArray) (k' n' : Int) (s' : ByteArray) (p : Nat) (w : World) (hc : Cap w p k' n' s') (HT : Hid (∀ wx, Calls Tryz.prog 49 #[.int .i64 1, VV k n s, VV k' n' s'] wx fun e w' => e = .returned (VV 3 1 nul) ∧ Below wx.heap.size wx w')) :
    Calls Tryz.prog 273 #[VV k n s, .pointer (some ⟨p, 0, none⟩)] w fun e w' => e = .returned (.bool true) ∧ Below w.heap.size w w' := by
  have HTR : Hid (∀ wx, Calls Tryz.prog 46 #[.bool true] wx fun e w' => e = .returned (VV 3 1 nul) ∧ Below wx.heap.size wx w') := fun wx => truth_any true wx
  have hc1 := hc.next ((Below.refl w.heap.size w).alloc (Nat.le_refl _) (.cells #[.int .i64 k, .int .i64 n, .string s] 31))
  obtain ⟨y0, y1, y2⟩ := cells3v hc1
  obtain ⟨a0, a1, a2⟩ := cells3v (heap_alloc_new w (.cells #[.int .i64 k, .int .i64 n, .string s] 31))
  have hg31 : Tryz.prog.eqGuardType Tryz.prog.depth 31 = false := by kernel_rfl
  have HB0 : Hid (Below w.heap.size w (w.alloc (.cells #[.int .i64 k, .int .i64 n, .string s] 31))) := (Below.refl _ _).alloc (Nat.le_refl _) _
  clear hc hc1
  go_enter Tryz.func273, Tryz.ntmps273
  go_wp2_with fail
  refine (HT.out _).mono ?_
  clear y0 y1 y2 a0 a1 a2
  rintro e w1 ⟨rfl, hb1⟩
  have HB1 : Hid (Below w.heap.size w w1) := bnext HB0.out hb1 HB0.out.size
  clear hb1 HB0 HT
  go_wp2_with fail
  refine (HTR.out _).mono ?_
  rintro e w2 ⟨rfl, hb2⟩
  have HB2 : Hid (Below w.heap.size w w2) := bnext HB1.out hb2 HB1.out.size
  have hq := eql31g 3 1 nul 3 1 nul w2
  clear hb2 HB1 HTR
  go_wp2_with fail
  go_ret
  exact ⟨rfl, HB2.out⟩
set_option maxRecDepth 100000 in
set_option maxHeartbeats 4000000 in
theorem wanted_f (k n : Int) (s : ByteArray) (k' n' : Int) (s' : ByteArray) (p : Nat) (w : World) (hc : Cap w p k' n' s') (HT : Hid (∀ wx, Calls Tryz.prog 49 #[.int .i64 1, VV k n s, VV k' n' s'] wx fun e w' => e = .returned (VV 3 0 nul) ∧ Below wx.heap.size wx w')) :
    Calls Tryz.prog 273 #[VV k n s, .pointer (some ⟨p, 0, none⟩)] w fun e w' => e = .returned (.bool false) ∧ Below w.heap.size w w' := by
  have HTR : Hid (∀ wx, Calls Tryz.prog 46 #[.bool true] wx fun e w' => e = .returned (VV 3 1 nul) ∧ Below wx.heap.size wx w') := fun wx => truth_any true wx
  have hc1 := hc.next ((Below.refl w.heap.size w).alloc (Nat.le_refl _) (.cells #[.int .i64 k, .int .i64 n, .string s] 31))
  obtain ⟨y0, y1, y2⟩ := cells3v hc1
  obtain ⟨a0, a1, a2⟩ := cells3v (heap_alloc_new w (.cells #[.int .i64 k, .int .i64 n, .string s] 31))
  have hg31 : Tryz.prog.eqGuardType Tryz.prog.depth 31 = false := by kernel_rfl
  have HB0 : Hid (Below w.heap.size w (w.alloc (.cells #[.int .i64 k, .int .i64 n, .string s] 31))) := (Below.refl _ _).alloc (Nat.le_refl _) _
  clear hc hc1
  go_enter Tryz.func273, Tryz.ntmps273
  go_wp2_with fail
  refine (HT.out _).mono ?_
  clear y0 y1 y2 a0 a1 a2
  rintro e w1 ⟨rfl, hb1⟩
  have HB1 : Hid (Below w.heap.size w w1) := bnext HB0.out hb1 HB0.out.size
  clear hb1 HB0 HT
  go_wp2_with fail
  refine (HTR.out _).mono ?_
  rintro e w2 ⟨rfl, hb2⟩
  have HB2 : Hid (Below w.heap.size w w2) := bnext HB1.out hb2 HB1.out.size
  have hq := eql31g 3 0 nul 3 1 nul w2
  clear hb2 HB1 HTR
  go_wp2_with fail
  go_ret
  exact ⟨rfl, HB2.out⟩
set_option maxRecDepth 100000 in
set_option maxHeartbeats 4000000 in
theorem wanted_b (rn : Int) (rs : ByteArray) (k n : Int) (s : ByteArray) (k' n' : Int) (s' : ByteArray) (p : Nat) (w : World) (hc : Cap w p k' n' s') (HT : Hid (∀ wx, Calls Tryz.prog 49 #[.int .i64 1, VV k n s, VV k' n' s'] wx fun e w' => e = .returned (VV 4 rn rs) ∧ Below wx.heap.size wx w')) :
    Calls Tryz.prog 273 #[VV k n s, .pointer (some ⟨p, 0, none⟩)] w fun e w' => e = .returned (.bool false) ∧ Below w.heap.size w w' := by
  have HTR : Hid (∀ wx, Calls Tryz.prog 46 #[.bool true] wx fun e w' => e = .returned (VV 3 1 nul) ∧ Below wx.heap.size wx w') := fun wx => truth_any true wx
  have hc1 := hc.next ((Below.refl w.heap.size w).alloc (Nat.le_refl _) (.cells #[.int .i64 k, .int .i64 n, .string s] 31))
  obtain ⟨y0, y1, y2⟩ := cells3v hc1
  obtain ⟨a0, a1, a2⟩ := cells3v (heap_alloc_new w (.cells #[.int .i64 k, .int .i64 n, .string s] 31))
  have hg31 : Tryz.prog.eqGuardType Tryz.prog.depth 31 = false := by kernel_rfl
  have HB0 : Hid (Below w.heap.size w (w.alloc (.cells #[.int .i64 k, .int .i64 n, .string s] 31))) := (Below.refl _ _).alloc (Nat.le_refl _) _
  clear hc hc1
  go_enter Tryz.func273, Tryz.ntmps273
  go_wp2_with fail
  refine (HT.out _).mono ?_
  clear y0 y1 y2 a0 a1 a2
  rintro e w1 ⟨rfl, hb1⟩
  have HB1 : Hid (Below w.heap.size w w1) := bnext HB0.out hb1 HB0.out.size
  clear hb1 HB0 HT
  go_wp2_with fail
  refine (HTR.out _).mono ?_
  rintro e w2 ⟨rfl, hb2⟩
  have HB2 : Hid (Below w.heap.size w w2) := bnext HB1.out hb2 HB1.out.size
  have hq := eql31g 4 rn rs 3 1 nul w2
  clear hb2 HB1 HTR
  go_wp2_with fail
  go_ret
  exact ⟨rfl, HB2.out⟩
theorem isWanted_any (k n : Int) (s : ByteArray) (k' n' : Int) (s' : ByteArray) (p : Nat) (w : World) (hc : Cap w p k' n' s') :
    Calls Tryz.prog 273 #[VV k n s, .pointer (some ⟨p, 0, none⟩)] w fun e w' => e = .returned (.bool (eqT k n s k' n' s')) ∧ Below w.heap.size w w' := by
  obtain ⟨rk, rn, rs, H, hr⟩ := two1_any k n s k' n' s'
  rcases hr with ⟨rfl, rfl, rfl⟩ | ⟨rfl, h⟩
  · cases h : eqT k n s k' n' s' with
    | true => rw [h] at H; exact wanted_t k n s k' n' s' p w hc H
    | false => rw [h] at H; exact wanted_f k n s k' n' s' p w hc H
  · rw [h]; exact wanted_b rn rs k n s k' n' s' p w hc H
end Go.Proofs.YtoebppmagkijjaaGreatDoor.ev
/- Package eval: a box of one column, from its first row on: its rows, its columns, its cells. Conditions: as each theorem says. -/
namespace Go.Proofs.YtoebppmagkijjaaGreatDoor.ev
open Go.RowKit
/-- A column of so many rows, with the values of cells. -/
abbrev gB (mb : Option Nat) (n : Nat) : Value := .agg #[.map mb, .int .i64 1, .int .i64 1, .int .i64 1, .int .i64 (n : Int)]
set_option maxRecDepth 100000 in
theorem rows_any (mb : Option Nat) (n : Nat) (hn : n ≤ 99) (w : World) : Calls Tryz.prog 200 #[gB mb n] w fun e w' => e = .returned (.int .i64 (n : Int)) ∧ Below w.heap.size w w' := by
  obtain ⟨c0, c1, c2, c3, c4⟩ := cells5v (heap_alloc_new w (.cells #[.map mb, .int .i64 1, .int .i64 1, .int .i64 1, .int .i64 (n : Int)] 185))
  have HB : Hid (Below w.heap.size w (w.alloc (.cells #[.map mb, .int .i64 1, .int .i64 1, .int .i64 1, .int .i64 (n : Int)] 185))) := (Below.refl _ _).alloc (Nat.le_refl _) _
  have h1 : (n : Int) ≤ 99 := by omega
  have h0 : (0 : Int) ≤ (n : Int) := by omega
  go_enter Tryz.func200, Tryz.ntmps200
  go_wp2_with fail
  go_ret
  exact ⟨congrArg Ending.returned (congrArg (Value.int .i64) (by omega)), HB.out⟩
set_option maxRecDepth 100000 in
theorem cols_any (mb : Option Nat) (n : Nat) (w : World) : Calls Tryz.prog 202 #[gB mb n] w fun e w' => e = .returned (.int .i64 1) ∧ Below w.heap.size w w' := by
  obtain ⟨c0, c1, c2, c3, c4⟩ := cells5v (heap_alloc_new w (.cells #[.map mb, .int .i64 1, .int .i64 1, .int .i64 1, .int .i64 (n : Int)] 185))
  have HB : Hid (Below w.heap.size w (w.alloc (.cells #[.map mb, .int .i64 1, .int .i64 1, .int .i64 1, .int .i64 (n : Int)] 185))) := (Below.refl _ _).alloc (Nat.le_refl _) _
  go_enter Tryz.func202, Tryz.ntmps202
  go_wp2_with fail
  go_ret
  exact ⟨rfl, HB.out⟩
/-- The grid's block, opened. -/
abbrev GO (w : World) (mb : Option Nat) (n : Nat) (wx : World) : Prop := wx.cell? ⟨w.heap.size, 0, none⟩ = some (.map mb) ∧ wx.cell? ⟨w.heap.size, 1, none⟩ = some (.int .i64 1) ∧ wx.cell? ⟨w.heap.size, 2, none⟩ = some (.int .i64 1) ∧ wx.cell? ⟨w.heap.size, 3, none⟩ = some (.int .i64 1) ∧ wx.cell? ⟨w.heap.size, 4, none⟩ = some (.int .i64 (n : Int)) ∧ wx.heap[w.heap.size]? = some (.cells #[.map mb, .int .i64 1, .int .i64 1, .int .i64 1, .int .i64 (n : Int)] 185 (0, 0)) ∧ Below w.heap.size w wx
theorem GO.of {w wx : World} {mb : Option Nat} {n : Nat} (h : wx.heap[w.heap.size]? = some (.cells #[.map mb, .int .i64 1, .int .i64 1, .int .i64 1, .int .i64 (n : Int)] 185 (0, 0))) (hb : Below w.heap.size w wx) : GO w mb n wx := by
  obtain ⟨c0, c1, c2, c3, c4⟩ := cells5v h
  exact ⟨c0, c1, c2, c3, c4, h, hb⟩
theorem GO.next {w wx wy : World} {mb : Option Nat} {n : Nat} (h : GO w mb n wx) (hb : Below wx.heap.size wx wy) : GO w mb n wy := GO.of ((hb.block _ (fm.lt_blk h.2.2.2.2.2.1)).trans h.2.2.2.2.2.1) (bnext h.2.2.2.2.2.2 hb h.2.2.2.2.2.2.size)
set_option maxRecDepth 100000 in
set_option maxHeartbeats 4000000 in
theorem has_yes (mb : Option Nat) (n : Nat) (row : Int) (hn : n ≤ 99) (h1 : 1 ≤ row) (h2 : row ≤ (n : Int)) (w : World) : Calls Tryz.prog 250 #[gB mb n, .int .i64 row, .int .i64 1] w fun e w' => e = .returned (.bool true) ∧ Below w.heap.size w w' := by
  have hG : GO w mb n (w.alloc (.cells #[.map mb, .int .i64 1, .int .i64 1, .int .i64 1, .int .i64 (n : Int)] 185)) := GO.of (heap_alloc_new w _) ((Below.refl _ _).alloc (Nat.le_refl _) _)
  have hGd := hG.next (Below.refl _ _).drew
  have HRW : Hid (∀ wx, Calls Tryz.prog 200 #[gB mb n] wx fun e w' => e = .returned (.int .i64 (n : Int)) ∧ Below wx.heap.size wx w') := fun wx => rows_any mb n hn wx
  have HCL : Hid (∀ wx, Calls Tryz.prog 202 #[gB mb n] wx fun e w' => e = .returned (.int .i64 1) ∧ Below wx.heap.size wx w') := fun wx => cols_any mb n wx
  obtain ⟨c0, c1, c2, c3, c4, -, -⟩ := hG
  have HGO : Hid (GO w mb n (w.alloc (.cells #[.map mb, .int .i64 1, .int .i64 1, .int .i64 1, .int .i64 (n : Int)] 185))) := GO.of (heap_alloc_new w _) ((Below.refl _ _).alloc (Nat.le_refl _) _)
  clear hGd
  go_enter Tryz.func250, Tryz.ntmps250
  go_wp2_with fail
  refine (HRW.out _).mono ?_
  clear c0 c1 c2 c3 c4
  rintro e w1 ⟨rfl, hb1⟩
  have HG1 : Hid (GO w mb n w1) := HGO.out.next hb1
  obtain ⟨c0, c1, c2, c3, c4, -, -⟩ := HG1.out
  clear hb1 HGO
  go_wp2_with fail
  refine (HCL.out _).mono ?_
  clear c0 c1 c2 c3 c4
  rintro e w2 ⟨rfl, hb2⟩
  have HB2 : Hid (Below w.heap.size w w2) := (HG1.out.next hb2).2.2.2.2.2.2
  clear hb2 HG1
  go_wp2_with fail
  go_ret
  exact ⟨rfl, HB2.out⟩
set_option maxRecDepth 100000 in
set_option maxHeartbeats 4000000 in
theorem at_any (mb : Option Nat) (n : Nat) (row : Int) (h1 : 1 ≤ row) (h2 : row ≤ 99) (k m : Int) (z : ByteArray) (w : World) (HL : Hid (∀ wx, Below w.heap.size w wx → (Instr.lookup 68 (.map mb) (.agg #[.int .i64 1, .int .i64 row]) false).run Tryz.prog wx = .ok (VV k m z) wx)) :
    Calls Tryz.prog 251 #[gB mb n, .int .i64 row, .int .i64 1] w fun e w' => e = .returned (VV k m z) ∧ Below w.heap.size w w' := by
  obtain ⟨hA, hR⟩ := two_new w (.cells #[.map mb, .int .i64 1, .int .i64 1, .int .i64 1, .int .i64 (n : Int)] 185) (.cells #[.int .i64 0, .int .i64 0, .string nul] 31)
  have hbW : Below w.heap.size w ((w.alloc (.cells #[.map mb, .int .i64 1, .int .i64 1, .int .i64 1, .int .i64 (n : Int)] 185)).alloc (.cells #[.int .i64 0, .int .i64 0, .string nul] 31)) := ((Below.refl _ _).alloc (Nat.le_refl _) _).alloc (by simp) _
  have hl := HL.out _ hbW
  have e1 : (1 : Int) + row - 1 = row := by omega
  obtain ⟨c0, c1, c2, c3, c4⟩ := cells5v hA
  obtain ⟨d0, d1, d2⟩ := cells3v hR
  have f0 := frz hR
  clear hA hR HL hbW
  go_enter Tryz.func251, Tryz.ntmps251
  go_wp2_with fail
  exact bodyPost_ret (v := VV k m z) (by simp [results, Tryz.results251, go_sem]) rfl ⟨rfl, ((Below.refl _ _).alloc (Nat.le_refl _) _).alloc (by simp) _⟩
set_option maxRecDepth 100000 in
set_option maxHeartbeats 4000000 in
theorem index_yes (mb : Option Nat) (n : Nat) (row : Int) (hn : n ≤ 99) (h1 : 1 ≤ row) (h2 : row ≤ (n : Int)) (k m : Int) (z : ByteArray) (w : World) (HL : Hid (∀ wx, Below w.heap.size w wx → (Instr.lookup 68 (.map mb) (.agg #[.int .i64 1, .int .i64 row]) false).run Tryz.prog wx = .ok (VV k m z) wx)) :
    Calls Tryz.prog 204 #[gB mb n, .int .i64 row, .int .i64 1] w fun e w' => e = .returned (VV k m z) ∧ Below w.heap.size w w' := by
  have HH : Hid (∀ wx, Calls Tryz.prog 250 #[gB mb n, .int .i64 row, .int .i64 1] wx fun e w' => e = .returned (.bool true) ∧ Below wx.heap.size wx w') := fun wx => has_yes mb n row hn h1 h2 wx
  have HA : Hid (∀ wx, Below w.heap.size w wx → Calls Tryz.prog 251 #[gB mb n, .int .i64 row, .int .i64 1] wx fun e w' => e = .returned (VV k m z) ∧ Below wx.heap.size wx w') := fun wx hb => at_any mb n row h1 (by omega) k m z wx (fun wy hy => HL.out wy (bnext hb hy hb.size))
  obtain ⟨hA, hR⟩ := two_new w (.cells #[.map mb, .int .i64 1, .int .i64 1, .int .i64 1, .int .i64 (n : Int)] 185) (.cells #[.int .i64 0, .int .i64 0, .string nul] 31)
  have hbW : Below w.heap.size w ((w.alloc (.cells #[.map mb, .int .i64 1, .int .i64 1, .int .i64 1, .int .i64 (n : Int)] 185)).alloc (.cells #[.int .i64 0, .int .i64 0, .string nul] 31)) := ((Below.refl _ _).alloc (Nat.le_refl _) _).alloc (by simp) _
  obtain ⟨c0, c1, c2, c3, c4⟩ := cells5v hA
  have HST : Hid (∀ wx, Below ((w.alloc (.cells #[.map mb, .int .i64 1, .int .i64 1, .int .i64 1, .int .i64 (n : Int)] 185)).alloc (.cells #[.int .i64 0, .int .i64 0, .string nul] 31)).heap.size ((w.alloc (.cells #[.map mb, .int .i64 1, .int .i64 1, .int .i64 1, .int .i64 (n : Int)] 185)).alloc (.cells #[.int .i64 0, .int .i64 0, .string nul] 31)) wx → wx.heap[w.heap.size]? = some (.cells #[.map mb, .int .i64 1, .int .i64 1, .int .i64 1, .int .i64 (n : Int)] 185 (0, 0)) ∧ wx.heap[w.heap.size + 1]? = some (.cells #[.int .i64 0, .int .i64 0, .string nul] 31 (0, 0)) ∧ Below w.heap.size w wx) := fun wx h => ⟨(h.block _ (fm.lt_blk hA)).trans hA, (h.block _ (fm.lt_blk hR)).trans hR, bnext hbW h hbW.size⟩
  clear hA hR hbW HL
  go_enter Tryz.func204, Tryz.ntmps204
  go_wp2_with fail
  refine (HH.out _).mono ?_
  clear c0 c1 c2 c3 c4
  rintro e w1 ⟨rfl, hb1⟩
  obtain ⟨hg, -, hbl⟩ := HST.out w1 hb1
  obtain ⟨c0, c1, c2, c3, c4⟩ := cells5v hg
  have HB1 : Hid (Below ((w.alloc (.cells #[.map mb, .int .i64 1, .int .i64 1, .int .i64 1, .int .i64 (n : Int)] 185)).alloc (.cells #[.int .i64 0, .int .i64 0, .string nul] 31)).heap.size ((w.alloc (.cells #[.map mb, .int .i64 1, .int .i64 1, .int .i64 1, .int .i64 (n : Int)] 185)).alloc (.cells #[.int .i64 0, .int .i64 0, .string nul] 31)) w1 ∧ Below w.heap.size w w1) := ⟨hb1, hbl⟩
  clear hb1 hg hbl HH
  go_wp2_with fail
  refine (HA.out _ HB1.out.2).mono ?_
  clear c0 c1 c2 c3 c4
  rintro e w2 ⟨rfl, hb2⟩
  obtain ⟨-, hq1, hbl⟩ := HST.out w2 (bnext HB1.out.1 hb2 HB1.out.1.size)
  have HB : Hid (Below w.heap.size w w2) := hbl
  obtain ⟨c0, c1, c2⟩ := cells3v hq1
  have f0 : ∀ o, w2.frozen? ⟨w.heap.size + 1, o, none⟩ = false := frz hq1
  have HQ1 : Hid (w2.heap[w.heap.size + 1]? = some (.cells #[.int .i64 0, .int .i64 0, .string nul] 31 (0, 0))) := hq1
  clear hq1 hb2 hbl HST HB1 HA
  go_wp2_with fail
  refine fin3 HQ1.out (Q := bodyPost _ _ _ _ _) ?_
  clear c0 c1 c2 f0
  intro w3 hq3 hk3
  obtain ⟨d0, d1, d2⟩ := cells3v hq3
  exact bodyPost_ret (v := VV k m z) (by simp [results, Tryz.results204, go_sem, d0, d1, d2]) rfl ⟨rfl, HB.out.trans (hk3 _ (by omega))⟩
end Go.Proofs.YtoebppmagkijjaaGreatDoor.ev
/- Package eval: the values of a column. Conditions: as each theorem says. -/
namespace Go.Proofs.YtoebppmagkijjaaGreatDoor.ev
open Go.RowKit
theorem boxL_col (n i : Nat) (h : i < n) : (adr.boxL 1 1 1 n)[i * 2]? = some (.int .i64 1) ∧ (adr.boxL 1 1 1 n)[i * 2 + 1]? = some (.int .i64 ((i : Int) + 1)) ∧ (adr.boxL 1 1 1 n).length = n * 2 := by
  have hlen : ∀ n, (adr.boxL 1 1 1 n).length = n * 2 := fun n => by
    induction n with
    | zero => rfl
    | succ n ih => simp only [adr.boxL, adr.rowL, List.length_append, ih, List.nil_append, List.length_cons, List.length_nil]; omega
  induction n with
  | zero => omega
  | succ n ih =>
    have hl := hlen n
    have hl1 := hlen (n + 1)
    simp only [adr.boxL, adr.rowL, List.nil_append]
    by_cases e : i < n
    · obtain ⟨h1, h2, -⟩ := ih e
      refine ⟨?_, ?_, ?_⟩
      · rw [List.getElem?_append_left (by omega)]; exact h1
      · rw [List.getElem?_append_left (by omega)]; exact h2
      · rw [List.length_append, hl]; simp; omega
    · have : i = n := by omega
      subst this
      refine ⟨?_, ?_, ?_⟩
      · rw [List.getElem?_append_right (by omega), hl]; simp
      · rw [List.getElem?_append_right (by omega), hl, show i * 2 + 1 - i * 2 = 1 from by omega]; simp; omega
      · rw [List.length_append, hl]; simp; omega
/-- The cells of a column, in their block. -/
theorem col_cells (n : Nat) (hn : 1 ≤ n) (hn2 : n ≤ 99) (w : World) :
    Calls Tryz.prog 272 #[adr.X 1 1 1 (n : Int)] w fun e w' => (∃ g cap : Nat, e = .returned (.tuple #[.slice (some ⟨g, 0, none⟩) n cap, .nilIface]) ∧ g < w'.heap.size ∧ ∀ i, i < n → w'.cell? ⟨g, i * 2, none⟩ = some (.int .i64 1) ∧ w'.cell? ⟨g, i * 2 + 1, none⟩ = some (.int .i64 ((i : Int) + 1))) ∧ Below w.heap.size w w' := by
  have h := adr.pcells_yes 1 1 1 n w (by omega) (by omega) (by omega) (by omega) (by omega) hn
  rw [show (1 : Int) + ((1 : Nat) : Int) - 1 = 1 from rfl, show (1 : Int) + (n : Int) - 1 = n from by omega] at h
  refine h.mono ?_
  rintro e w' ⟨⟨v, rfl, ho⟩, hb⟩
  refine ⟨?_, hb⟩
  rw [Nat.mul_one] at ho
  obtain ⟨h0, h | ⟨g, cap, cur, h1, h2, h3, h4⟩⟩ := ho
  · omega
  · obtain ⟨-, -, -, h5⟩ := h4
    refine ⟨g, cap, by rw [h1], fm.lt_blk h3, fun i hi => ?_⟩
    obtain ⟨b1, b2, -⟩ := boxL_col n i hi
    have hc : ∀ o x, (adr.boxL 1 1 1 n)[o]? = some x → w'.cell? ⟨g, o, none⟩ = some x := fun o x hx => by
      rw [← h5, List.getElem?_take] at hx
      split at hx
      · simp [World.cell?, h3]; simpa using hx
      · cases hx
    exact ⟨hc _ _ b1, hc _ _ b2⟩
/-- A list of values in its block, three cells each. -/
def VB (w : World) (B n : Nat) (cs : Nat → Nat → Value) : Prop :=
  ∃ arr t, w.heap[B]? = some (.cells arr t (0, 0)) ∧ arr.size = n * 3 ∧ ∀ i j, i < n → j < 3 → arr[i * 3 + j]? = some (cs i j)
section
variable {w w' : World} {B n : Nat} {cs : Nat → Nat → Value}
theorem VB.next (h : VB w B n cs) (hb : Below w.heap.size w w') : VB w' B n cs := by
  obtain ⟨arr, t, h1, h2⟩ := h
  exact ⟨arr, t, (hb.block _ (fm.lt_blk h1)).trans h1, h2⟩
theorem VB.lt (h : VB w B n cs) : B < w.heap.size := by
  obtain ⟨arr, t, h1, -⟩ := h
  exact fm.lt_blk h1
theorem VB.cell (h : VB w B n cs) {i j : Nat} (hi : i < n) (hj : j < 3) : w.cell? ⟨B, i * 3 + j, none⟩ = some (cs i j) := by
  obtain ⟨arr, t, h1, h2, h3⟩ := h
  simp [World.cell?, h1, h3 i j hi hj]
theorem VB.frozen (h : VB w B n cs) (o : Nat) : w.frozen? ⟨B, o, none⟩ = false := by
  obtain ⟨arr, t, h1, -⟩ := h
  simp [World.frozen?, h1]
theorem VB.set (h : VB w B n cs) {i j : Nat} (hi : i < n) (hj : j < 3) (u : Value) : VB (w.setCell ⟨B, i * 3 + j, none⟩ u) B n (csSet cs i j u) := by
  obtain ⟨arr, t, h1, h2, h3⟩ := h
  refine ⟨arr.setIfInBounds (i * 3 + j) u, t, fm.blk_set h1, by simp [h2], fun a b ha hb => ?_⟩
  rw [Array.getElem?_setIfInBounds]
  by_cases e : a = i ∧ b = j
  · obtain ⟨rfl, rfl⟩ := e
    rw [csSet_same, if_pos rfl, if_pos (by omega)]
  · rw [if_neg (by omega), csSet_other _ _ e]; exact h3 a b ha hb
end
abbrev Z3 : Array Value := #[.int .i64 0, .int .i64 0, .string nul]
theorem info31 : (Tryz.prog.info? 31).map (fun i => (i.zero, i.size, i.bytes)) = some (some (.agg Z3), 3, 32) := by kernel_rfl
theorem make_vals (n : Nat) (hn : n ≤ 1000) (w : World) : (Instr.makeSlice 46 (.int .i64 (n : Int)) (.int .i64 (n : Int))).run Tryz.prog w = .ok (.slice (some ⟨w.heap.size, 0, none⟩) n n) (w.alloc (.cells (madeCells Z3 (n * 3)) 31)) := by
  obtain ⟨i0, hi, hz0, hz1, hz2⟩ := info_parts info31
  have := run_make (P := Tryz.prog) w 46 31 i0 (.agg Z3) Tryz.underlying46 hi hz0 .i64 .i64 (n : Int) (n : Int) (by omega) (by omega) (by rw [hz2]; omega) (by omega)
  rw [this, hz1]
  simp [Value.cells]
theorem made_vals (n : Nat) (w : World) : VB (w.alloc (.cells (madeCells Z3 (n * 3)) 31)) w.heap.size n (fun _ j => (Z3[j]?).getD undef) := by
  refine ⟨_, _, heap_alloc_new w _, by simp [madeCells], fun i j hi hj => ?_⟩
  have h1 : i * 3 + j < n * 3 := by omega
  have h2 : (i * 3 + j) % 3 = j := by omega
  have h3 : j < Z3.size := hj
  rw [madeCells, Array.getElem?_map, Array.getElem?_range, if_pos h1]
  show some (Z3[(i * 3 + j) % 3]!) = _
  rw [h2]
  show some (Z3[j]!) = some ((Z3[j]?).getD undef)
  rw [getElem!_pos Z3 j h3, Array.getElem?_eq_getElem h3]
  rfl
/-- What lies in memory while values are read: the grid, the list, the cells. -/
structure VL (w w1 : World) (mb : Option Nat) (n g : Nat) (cs : Nat → Nat → Value) (wr : World) : Prop where
  go : wr.heap[w.heap.size]? = some (.cells #[.map mb, .int .i64 1, .int .i64 1, .int .i64 1, .int .i64 (n : Int)] 185 (0, 0))
  vb : VB wr w1.heap.size n cs
  ce : ∀ i, i < n → wr.cell? ⟨g, i * 2, none⟩ = some (.int .i64 1) ∧ wr.cell? ⟨g, i * 2 + 1, none⟩ = some (.int .i64 ((i : Int) + 1))
  below : Below w.heap.size w wr
section
variable {w w1 wr : World} {mb : Option Nat} {n g : Nat} {cs : Nat → Nat → Value}
theorem VL.next (h : VL w w1 mb n g cs wr) (hg : g < w1.heap.size) {wy : World} (hb : Below wr.heap.size wr wy) : VL w w1 mb n g cs wy := by
  have hl := h.vb.lt
  exact ⟨(hb.block _ (fm.lt_blk h.go)).trans h.go, h.vb.next hb, fun i hi => by rw [hb.cell (p := ⟨g, _, none⟩) (show g < wr.heap.size by omega), hb.cell (p := ⟨g, _, none⟩) (show g < wr.heap.size by omega)]; exact h.ce i hi, bnext h.below hb h.below.size⟩
theorem VL.set (h : VL w w1 mb n g cs wr) (hg : g < w1.heap.size) (hw : w.heap.size < w1.heap.size) {i j : Nat} (hi : i < n) (hj : j < 3) (u : Value) : VL w w1 mb n g (csSet cs i j u) (wr.setCell ⟨w1.heap.size, i * 3 + j, none⟩ u) :=
  ⟨(blk_else (by omega)).trans h.go, h.vb.set hi hj u, fun i' hi' => by
    rw [World.cell?_of_block (a := ⟨g, i' * 2, none⟩) (w := wr) (blk_else (i := g) (by omega)), World.cell?_of_block (a := ⟨g, i' * 2 + 1, none⟩) (w := wr) (blk_else (i := g) (by omega))]; exact h.ce i' hi', h.below.setCell (by simp; omega) _⟩
end
set_option maxRecDepth 100000 in
set_option maxHeartbeats 4000000 in
theorem values_any (mb : Option Nat) (n : Nat) (hn : 1 ≤ n) (hn2 : n ≤ 99) (k m : Nat → Int) (z : Nat → ByteArray) (w : World)
    (HL : Hid (∀ i wx, i < n → Below w.heap.size w wx → (Instr.lookup 68 (.map mb) (.agg #[.int .i64 1, .int .i64 ((i : Int) + 1)]) false).run Tryz.prog wx = .ok (VV (k i) (m i) (z i)) wx)) :
    Calls Tryz.prog 253 #[gB mb n] w fun e w' => ∃ B cs, e = .returned (.slice (some ⟨B, 0, none⟩) n n) ∧ VB w' B n cs ∧ (∀ i, i < n → cs i 0 = .int .i64 (k i) ∧ cs i 1 = .int .i64 (m i) ∧ cs i 2 = .string (z i)) ∧ Below w.heap.size w w' := by
  have HC : Hid (∀ wx, Calls Tryz.prog 272 #[adr.X 1 1 1 (n : Int)] wx fun e w' => (∃ g cap : Nat, e = .returned (.tuple #[.slice (some ⟨g, 0, none⟩) n cap, .nilIface]) ∧ g < w'.heap.size ∧ ∀ i, i < n → w'.cell? ⟨g, i * 2, none⟩ = some (.int .i64 1) ∧ w'.cell? ⟨g, i * 2 + 1, none⟩ = some (.int .i64 ((i : Int) + 1))) ∧ Below wx.heap.size wx w') := fun wx => col_cells n hn hn2 wx
  have hG : GO w mb n (w.alloc (.cells #[.map mb, .int .i64 1, .int .i64 1, .int .i64 1, .int .i64 (n : Int)] 185)) := GO.of (heap_alloc_new w _) ((Below.refl _ _).alloc (Nat.le_refl _) _)
  have HGO : Hid (GO w mb n (w.alloc (.cells #[.map mb, .int .i64 1, .int .i64 1, .int .i64 1, .int .i64 (n : Int)] 185))) := hG
  obtain ⟨c0, c1, c2, c3, c4, -, -⟩ := hG
  go_enter Tryz.func253, Tryz.ntmps253
  go_wp2_with fail
  refine (HC.out _).mono ?_
  clear c0 c1 c2 c3 c4
  rintro e w1 ⟨⟨g, cap, rfl, hg, hcell⟩, hb1⟩
  have HCE : Hid (∀ i, i < n → w1.cell? ⟨g, i * 2, none⟩ = some (.int .i64 1) ∧ w1.cell? ⟨g, i * 2 + 1, none⟩ = some (.int .i64 ((i : Int) + 1))) := hcell
  have HG1 : Hid (GO w mb n w1) := HGO.out.next hb1
  have hmk := make_vals n (by omega) w1
  have hw1 : w.heap.size < w1.heap.size := fm.lt_blk HG1.out.2.2.2.2.2.1
  have HV0 : Hid (VL w w1 mb n g (fun _ j => (Z3[j]?).getD undef) (w1.alloc (.cells (madeCells Z3 (n * 3)) 31))) := by
    have hba : Below w1.heap.size w1 (w1.alloc (.cells (madeCells Z3 (n * 3)) 31)) := (Below.refl _ _).alloc (Nat.le_refl _) _
    exact ⟨(hba.block _ hw1).trans HG1.out.2.2.2.2.2.1, made_vals n w1, fun i hi => by rw [hba.cell (p := ⟨g, _, none⟩) hg, hba.cell (p := ⟨g, _, none⟩) hg]; exact hcell i hi, bnext HG1.out.2.2.2.2.2.2 hba HG1.out.2.2.2.2.2.2.size⟩
  clear hb1 hcell HGO HC
  go_wp2_with fail
  clear hmk HCE HG1
  go_loopw [19] (fun i wr => ∃ (j : Nat) (cs : Nat → Nat → Value), i = .int .i64 j ∧ j ≤ n ∧ VL w w1 mb n g cs wr ∧ ∀ i, i < j → cs i 0 = .int .i64 (k i) ∧ cs i 1 = .int .i64 (m i) ∧ cs i 2 = .string (z i)) (fun i _ => n - (intOf i).toNat)
  case atStart => exact ⟨0, _, rfl, Nat.zero_le _, HV0.out, fun i hi => absurd hi (Nat.not_lt_zero _)⟩
  case round =>
    clear HV0
    obtain ⟨j, cs, rfl, hj, hS, hv⟩ := hrel
    have HS : Hid (VL w w1 mb n g cs wr) := hS
    have HVV : Hid (∀ i, i < j → cs i 0 = .int .i64 (k i) ∧ cs i 1 = .int .i64 (m i) ∧ cs i 2 = .string (z i)) := hv
    by_cases hlt : j < n
    · have hlt' : (j : Int) < (n : Int) := by omega
      have hj0 : (0 : Int) ≤ (j : Int) := by omega
      obtain ⟨e0, e1⟩ := hS.ce j hlt
      have hba : Below wr.heap.size wr (wr.alloc (.cells #[.int .i64 1, .int .i64 ((j : Int) + 1)] 23)) := (Below.refl _ _).alloc (Nat.le_refl _) _
      have hS1 := hS.next hg hba
      have hl := HL.out j _ hlt hS1.below
      obtain ⟨g0, g1, g2, g3, g4⟩ := cells5v hS1.go
      have y0 := hS1.vb.cell hlt (j := 0) (by omega)
      have y1 := hS1.vb.cell hlt (j := 1) (by omega)
      have y2 := hS1.vb.cell hlt (j := 2) (by omega)
      have f0 := hS1.vb.frozen
      simp only [Nat.add_zero] at y0
      have HS2 : Hid (VL w w1 mb n g (csSet (csSet (csSet cs j 0 (.int .i64 (k j))) j 1 (.int .i64 (m j))) j 2 (.string (z j))) ((((wr.alloc (.cells #[.int .i64 1, .int .i64 ((j : Int) + 1)] 23)).setCell ⟨w1.heap.size, j * 3, none⟩ (.int .i64 (k j))).setCell ⟨w1.heap.size, j * 3 + 1, none⟩ (.int .i64 (m j))).setCell ⟨w1.heap.size, j * 3 + 2, none⟩ (.string (z j)))) := ((hS1.set hg hw1 hlt (j := 0) (by omega) _).set hg hw1 hlt (j := 1) (by omega) _).set hg hw1 hlt (j := 2) (by omega) _
      clear hS hS1 hv hba HS HL
      go_wp2_with fail
      exact ⟨⟨j + 1, _, by simp, hlt, HS2.out, vals_next HVV.out⟩, by simp [intOf]; omega⟩
    · have hkn : n = j := by omega
      subst hkn
      clear hS hv
      go_wp2_with fail
      go_ret
      exact ⟨_, cs, rfl, HS.out.vb, HVV.out, HS.out.below⟩
end Go.Proofs.YtoebppmagkijjaaGreatDoor.ev
/- Package eval: which value of a column is equal to another one first; how many are. Conditions: as each theorem says. -/
namespace Go.Proofs.YtoebppmagkijjaaGreatDoor.ev
open Go.RowKit
/-- A list of values, and a value that a closure holds. -/
structure VC (w0 : World) (B n : Nat) (cs : Nat → Nat → Value) (p : Nat) (k' n' : Int) (s' : ByteArray) (wr : World) : Prop where
  vb : VB wr B n cs
  cap : Cap wr p k' n' s'
  below : Below w0.heap.size w0 wr
theorem VC.next {w0 wr wy : World} {B n : Nat} {cs : Nat → Nat → Value} {p : Nat} {k' n' : Int} {s' : ByteArray} (h : VC w0 B n cs p k' n' s' wr) (hb : Below wr.heap.size wr wy) : VC w0 B n cs p k' n' s' wy := ⟨h.vb.next hb, h.cap.next hb, bnext h.below hb h.below.size⟩
set_option maxRecDepth 100000 in
set_option maxHeartbeats 4000000 in
theorem indexFunc_any (B n : Nat) (hn : n ≤ 99) (cs : Nat → Nat → Value) (k m : Nat → Int) (z : Nat → ByteArray) (p : Nat) (k' n' : Int) (s' : ByteArray) (w : World) (hv : VB w B n cs) (hc : Cap w p k' n' s') (hcs : ∀ i, i < n → cs i 0 = .int .i64 (k i) ∧ cs i 1 = .int .i64 (m i) ∧ cs i 2 = .string (z i)) :
    Calls Tryz.prog 252 #[.slice (some ⟨B, 0, none⟩) n n, .func (.func 273) #[] #[.pointer (some ⟨p, 0, none⟩)]] w fun e w' => ((∃ j : Nat, j < n ∧ e = .returned (.int .i64 (j : Int)) ∧ eqT (k j) (m j) (z j) k' n' s' = true ∧ ∀ i, i < j → eqT (k i) (m i) (z i) k' n' s' = false) ∨ (e = .returned (.int .i64 (-1)) ∧ ∀ i, i < n → eqT (k i) (m i) (z i) k' n' s' = false)) ∧ Below w.heap.size w w' := by
  have HS0 : Hid (VC w B n cs p k' n' s' w) := ⟨hv, hc, Below.refl _ _⟩
  have HCS : Hid (∀ i, i < n → cs i 0 = .int .i64 (k i) ∧ cs i 1 = .int .i64 (m i) ∧ cs i 2 = .string (z i)) := hcs
  clear hv hc hcs
  go_enter Tryz.func252, Tryz.ntmps252
  go_wp2_with fail
  go_loopw [8] (fun i wr => ∃ j : Nat, i = .int .i64 j ∧ j ≤ n ∧ VC w B n cs p k' n' s' wr ∧ ∀ i, i < j → eqT (k i) (m i) (z i) k' n' s' = false) (fun i _ => n - (intOf i).toNat)
  case atStart => exact ⟨0, rfl, Nat.zero_le _, HS0.out, fun i hi => absurd hi (Nat.not_lt_zero _)⟩
  case round =>
    clear HS0
    obtain ⟨j, rfl, hj, hS, hd⟩ := hrel
    have HS : Hid (VC w B n cs p k' n' s' wr) := hS
    have HD : Hid (∀ i, i < j → eqT (k i) (m i) (z i) k' n' s' = false) := hd
    by_cases hlt : j < n
    · have hlt' : (j : Int) < (n : Int) := by omega
      have hj0 : (0 : Int) ≤ (j : Int) := by omega
      obtain ⟨q0, q1, q2⟩ := HCS.out j hlt
      have y0 := hS.vb.cell hlt (j := 0) (by omega)
      have y1 := hS.vb.cell hlt (j := 1) (by omega)
      have y2 := hS.vb.cell hlt (j := 2) (by omega)
      simp only [Nat.add_zero] at y0
      rw [q0] at y0
      rw [q1] at y1
      rw [q2] at y2
      have HW : Hid (Calls Tryz.prog 273 #[VV (k j) (m j) (z j), .pointer (some ⟨p, 0, none⟩)] wr fun e w' => e = .returned (.bool (eqT (k j) (m j) (z j) k' n' s')) ∧ Below wr.heap.size wr w') := isWanted_any _ _ _ _ _ _ p wr hS.cap
      clear hS hd q0 q1 q2
      cases hb : eqT (k j) (m j) (z j) k' n' s' with
      | true =>
        have HE : Hid (eqT (k j) (m j) (z j) k' n' s' = true) := hb
        rw [hb] at HW
        clear hb
        go_wp2_with fail
        refine HW.out.mono ?_
        clear y0 y1 y2
        rintro e w1 ⟨rfl, hb1⟩
        have HB : Hid (Below w.heap.size w w1) := (HS.out.next hb1).below
        clear hb1 HW
        go_wp2_with fail
        go_ret
        exact ⟨.inl ⟨j, hlt, rfl, HE.out, HD.out⟩, HB.out⟩
      | false =>
        have HE : Hid (eqT (k j) (m j) (z j) k' n' s' = false) := hb
        rw [hb] at HW
        clear hb
        go_wp2_with fail
        refine HW.out.mono ?_
        clear y0 y1 y2
        rintro e w1 ⟨rfl, hb1⟩
        have HS1 : Hid (VC w B n cs p k' n' s' w1) := HS.out.next hb1
        clear hb1 HW HS
        go_wp2_with fail
        exact ⟨⟨j + 1, by simp, hlt, HS1.out, fun i hi => by
          by_cases e : i = j
          · subst e; exact HE.out
          · exact HD.out i (by omega)⟩, by simp [intOf]; omega⟩
    · have hkn : n = j := by omega
      subst hkn
      clear hS hd
      go_wp2_with fail
      go_ret
      exact ⟨.inr ⟨rfl, HD.out⟩, HS.out.below⟩
/-- Where the first one is, or that there is none. -/
def RX (n : Nat) (k m : Nat → Int) (z : Nat → ByteArray) (k' n' : Int) (s' : ByteArray) (x : Int) : Prop :=
  (∃ j : Nat, j < n ∧ x = (j : Int) ∧ eqT (k j) (m j) (z j) k' n' s' = true ∧ ∀ i, i < j → eqT (k i) (m i) (z i) k' n' s' = false) ∨ (x = -1 ∧ ∀ i, i < n → eqT (k i) (m i) (z i) k' n' s' = false)
/-- A value and a grid, each in its block, and the answer's. -/
structure MG (w : World) (k' n' : Int) (s' : ByteArray) (mb : Option Nat) (n : Nat) (wx : World) : Prop where
  v : wx.heap[w.heap.size]? = some (.cells #[.int .i64 k', .int .i64 n', .string s'] 31 (0, 0))
  g : wx.heap[w.heap.size + 1]? = some (.cells #[.map mb, .int .i64 1, .int .i64 1, .int .i64 1, .int .i64 (n : Int)] 185 (0, 0))
  r : wx.heap[w.heap.size + 1 + 1]? = some (.cells #[.int .i64 0, .int .i64 0, .string nul] 31 (0, 0))
  below : Below w.heap.size w wx
theorem MG.next {w wx wy : World} {k' n' : Int} {s' : ByteArray} {mb : Option Nat} {n : Nat} (h : MG w k' n' s' mb n wx) (hb : Below wx.heap.size wx wy) : MG w k' n' s' mb n wy :=
  ⟨(hb.block _ (fm.lt_blk h.v)).trans h.v, (hb.block _ (fm.lt_blk h.g)).trans h.g, (hb.block _ (fm.lt_blk h.r)).trans h.r, bnext h.below hb h.below.size⟩
abbrev MGO (w : World) (k' n' : Int) (s' : ByteArray) (mb : Option Nat) (n : Nat) (wx : World) : Prop :=
  wx.cell? ⟨w.heap.size, 0, none⟩ = some (.int .i64 k') ∧ wx.cell? ⟨w.heap.size, 1, none⟩ = some (.int .i64 n') ∧ wx.cell? ⟨w.heap.size, 2, none⟩ = some (.string s') ∧ wx.cell? ⟨w.heap.size + 1, 0, none⟩ = some (.map mb) ∧ wx.cell? ⟨w.heap.size + 1, 1, none⟩ = some (.int .i64 1) ∧ wx.cell? ⟨w.heap.size + 1, 2, none⟩ = some (.int .i64 1) ∧ wx.cell? ⟨w.heap.size + 1, 3, none⟩ = some (.int .i64 1) ∧ wx.cell? ⟨w.heap.size + 1, 4, none⟩ = some (.int .i64 (n : Int)) ∧ MG w k' n' s' mb n wx
theorem MG.opened {w wx : World} {k' n' : Int} {s' : ByteArray} {mb : Option Nat} {n : Nat} (h : MG w k' n' s' mb n wx) : MGO w k' n' s' mb n wx := by
  obtain ⟨a0, a1, a2⟩ := cells3v h.v
  obtain ⟨c0, c1, c2, c3, c4⟩ := cells5v h.g
  exact ⟨a0, a1, a2, c0, c1, c2, c3, c4, h⟩
theorem mgo {w wx : World} {k' n' : Int} {s' : ByteArray} {mb : Option Nat} {n : Nat} (h : MGO w k' n' s' mb n wx) : MG w k' n' s' mb n wx := h.2.2.2.2.2.2.2.2
set_option maxRecDepth 100000 in
set_option maxHeartbeats 4000000 in
theorem match_any (mb : Option Nat) (n : Nat) (hn : 1 ≤ n) (hn2 : n ≤ 99) (k m : Nat → Int) (z : Nat → ByteArray) (k' n' : Int) (s' : ByteArray) (w : World)
    (HL : Hid (∀ i wx, i < n → Below w.heap.size w wx → (Instr.lookup 68 (.map mb) (.agg #[.int .i64 1, .int .i64 ((i : Int) + 1)]) false).run Tryz.prog wx = .ok (VV (k i) (m i) (z i)) wx)) :
    Calls Tryz.prog 206 #[VV k' n' s', gB mb n] w fun e w' => ((∃ j : Nat, j < n ∧ e = .returned (VV 1 ((j : Int) + 1) nul) ∧ eqT (k j) (m j) (z j) k' n' s' = true ∧ ∀ i, i < j → eqT (k i) (m i) (z i) k' n' s' = false) ∨ (e = .returned (VV 4 6 nul) ∧ ∀ i, i < n → eqT (k i) (m i) (z i) k' n' s' = false)) ∧ Below w.heap.size w w' := by
  have HVA : Hid (∀ wx, Below w.heap.size w wx → Calls Tryz.prog 253 #[gB mb n] wx fun e w' => ∃ B cs, e = .returned (.slice (some ⟨B, 0, none⟩) n n) ∧ VB w' B n cs ∧ (∀ i, i < n → cs i 0 = .int .i64 (k i) ∧ cs i 1 = .int .i64 (m i) ∧ cs i 2 = .string (z i)) ∧ Below wx.heap.size wx w') := fun wx hb => values_any mb n hn hn2 k m z wx (fun i wy hi hy => HL.out i wy hi (bnext hb hy hb.size))
  have HEQ : Hid (∀ wx, Calls Tryz.prog 254 #[VV k' n' s'] wx fun e w' => ∃ p, e = .returned (.func (.func 273) #[] #[.pointer (some ⟨p, 0, none⟩)]) ∧ Cap w' p k' n' s' ∧ Below wx.heap.size wx w') := fun wx => equalTo_any k' n' s' wx
  obtain ⟨hA, hG, hR, hbW⟩ := three w (.cells #[.int .i64 k', .int .i64 n', .string s'] 31) (.cells #[.map mb, .int .i64 1, .int .i64 1, .int .i64 1, .int .i64 (n : Int)] 185) (.cells #[.int .i64 0, .int .i64 0, .string nul] 31)
  obtain ⟨a0, a1, a2⟩ := cells3v hA
  obtain ⟨c0, c1, c2, c3, c4⟩ := cells5v hG
  have HST : Hid (∀ wx, Below (((w.alloc (.cells #[.int .i64 k', .int .i64 n', .string s'] 31)).alloc (.cells #[.map mb, .int .i64 1, .int .i64 1, .int .i64 1, .int .i64 (n : Int)] 185)).alloc (.cells #[.int .i64 0, .int .i64 0, .string nul] 31)).heap.size (((w.alloc (.cells #[.int .i64 k', .int .i64 n', .string s'] 31)).alloc (.cells #[.map mb, .int .i64 1, .int .i64 1, .int .i64 1, .int .i64 (n : Int)] 185)).alloc (.cells #[.int .i64 0, .int .i64 0, .string nul] 31)) wx → wx.heap[w.heap.size]? = some (.cells #[.int .i64 k', .int .i64 n', .string s'] 31 (0, 0)) ∧ wx.heap[w.heap.size + 1]? = some (.cells #[.map mb, .int .i64 1, .int .i64 1, .int .i64 1, .int .i64 (n : Int)] 185 (0, 0)) ∧ wx.heap[w.heap.size + 1 + 1]? = some (.cells #[.int .i64 0, .int .i64 0, .string nul] 31 (0, 0)) ∧ Below w.heap.size w wx) := fun wx h => ⟨(h.block _ (fm.lt_blk hA)).trans hA, (h.block _ (fm.lt_blk hG)).trans hG, (h.block _ (fm.lt_blk hR)).trans hR, bnext hbW h hbW.size⟩
  have HB0 : Hid (Below w.heap.size w (((w.alloc (.cells #[.int .i64 k', .int .i64 n', .string s'] 31)).alloc (.cells #[.map mb, .int .i64 1, .int .i64 1, .int .i64 1, .int .i64 (n : Int)] 185)).alloc (.cells #[.int .i64 0, .int .i64 0, .string nul] 31))) := hbW
  clear hA hG hR hbW HL
  have HIX : Hid (∀ wx B cs p, VB wx B n cs → Cap wx p k' n' s' → (∀ i, i < n → cs i 0 = .int .i64 (k i) ∧ cs i 1 = .int .i64 (m i) ∧ cs i 2 = .string (z i)) → Calls Tryz.prog 252 #[.slice (some ⟨B, 0, none⟩) n n, .func (.func 273) #[] #[.pointer (some ⟨p, 0, none⟩)]] wx fun e w' => ∃ x : Int, e = .returned (.int .i64 x) ∧ RX n k m z k' n' s' x ∧ Below wx.heap.size wx w') := fun wx B cs p h1 h2 h3 => by
    refine (indexFunc_any B n hn2 cs k m z p k' n' s' wx h1 h2 h3).mono ?_
    rintro e w' ⟨⟨j, hj, rfl, q1, q2⟩ | ⟨rfl, q1⟩, hb⟩
    · exact ⟨_, rfl, .inl ⟨j, hj, rfl, q1, q2⟩, hb⟩
    · exact ⟨_, rfl, .inr ⟨rfl, q1⟩, hb⟩
  have hM : MG w k' n' s' mb n (((w.alloc (.cells #[.int .i64 k', .int .i64 n', .string s'] 31)).alloc (.cells #[.map mb, .int .i64 1, .int .i64 1, .int .i64 1, .int .i64 (n : Int)] 185)).alloc (.cells #[.int .i64 0, .int .i64 0, .string nul] 31)) := by
    obtain ⟨q1, q2, q3, q4⟩ := HST.out _ (Below.refl _ _)
    exact ⟨q1, q2, q3, q4⟩
  clear HST HB0 a0 a1 a2 c0 c1 c2 c3 c4
  go_enter Tryz.func206, Tryz.ntmps206
  go_upto_region 1 with fail
  generalize (((w.alloc (.cells #[.int .i64 k', .int .i64 n', .string s'] 31)).alloc (.cells #[.map mb, .int .i64 1, .int .i64 1, .int .i64 1, .int .i64 (n : Int)] 185)).alloc (.cells #[.int .i64 0, .int .i64 0, .string nul] 31)) = W0 at *
  go_cut [5] (fun s5 wx => ∃ x : Int, s5 = .int .i64 x ∧ RX n k m z k' n' s' x ∧ MG w k' n' s' mb n wx)
  case first =>
    have h0d := (hM.next (Below.refl _ _).drew).opened
    obtain ⟨y0, y1, y2, y3, y4, y5, y6, y7, -⟩ := hM.opened
    go_region_held3 (fun wx => MGO w k' n' s' mb n wx) (first | exact h0d | exact ((mgo (by assumption)).next (by assumption)).opened) (first | (go_at_call 253; refine (HVA.out _ (mgo (by assumption)).below).mono ?_; rintro e w1 ⟨B, cs, rfl, hvb, hcs, b1⟩) | (go_at_call 254; refine (HEQ.out _).mono ?_; rintro e w2 ⟨p, rfl, hcap, b2⟩) | (go_at_call 252; refine (HIX.out _ B cs p (hvb.next b2) hcap hcs).mono ?_; rintro e w3 ⟨x, rfl, hrx, b3⟩))
    all_goals
      go_wp2_with fail
      go_meet
      case rel => exact ⟨x, rfl, hrx, mgo (by assumption)⟩
  case rest =>
  clear hM HVA HEQ HIX
  obtain ⟨x, rfl, hrx, hM⟩ := hcut
  have HM : Hid (MG w k' n' s' mb n wc) := hM
  clear hM
  rcases hrx with ⟨j, hj, rfl, q1, q2⟩ | ⟨rfl, q1⟩
  · have HQ : Hid (eqT (k j) (m j) (z j) k' n' s' = true ∧ ∀ i, i < j → eqT (k i) (m i) (z i) k' n' s' = false) := ⟨q1, q2⟩
    have HN : Hid (∀ wx, Calls Tryz.prog 44 #[.int .i64 ((j : Int) + 1)] wx fun e w' => e = .returned (VV 1 ((j : Int) + 1) nul) ∧ Below wx.heap.size wx w') := fun wx => number_any _ wx
    have hj0 : ¬ (j : Int) < 0 := by omega
    have hj1 : (j : Int) ≤ 99 := by omega
    have hj2 : (0 : Int) ≤ (j : Int) := by omega
    clear q1 q2
    go_wp2_with fail
    refine (HN.out _).mono ?_
    rintro e w1 ⟨rfl, hb1⟩
    have hM1 := HM.out.next hb1
    obtain ⟨c0, c1, c2⟩ := cells3v hM1.r
    have f0 : ∀ o, w1.frozen? ⟨w.heap.size + 1 + 1, o, none⟩ = false := frz hM1.r
    have HM1 : Hid (MG w k' n' s' mb n w1) := hM1
    clear hM1 hb1 HM HN
    go_wp2_with fail
    refine fin3 HM1.out.r (Q := bodyPost _ _ _ _ _) ?_
    clear c0 c1 c2 f0
    intro w2 hq2 hk2
    obtain ⟨d0, d1, d2⟩ := cells3v hq2
    exact bodyPost_ret (v := VV 1 ((j : Int) + 1) nul) (by simp [results, Tryz.results206, go_sem, d0, d1, d2]) rfl ⟨.inl ⟨j, hj, rfl, HQ.out.1, HQ.out.2⟩, HM1.out.below.trans (hk2 _ (by omega))⟩
  · have HQ : Hid (∀ i, i < n → eqT (k i) (m i) (z i) k' n' s' = false) := q1
    have HN : Hid (∀ wx, Calls Tryz.prog 47 #[.int .i64 6] wx fun e w' => e = .returned (VV 4 6 nul) ∧ Below wx.heap.size wx w') := fun wx => bad_any _ wx
    clear q1
    go_wp2_with fail
    refine (HN.out _).mono ?_
    rintro e w1 ⟨rfl, hb1⟩
    have hM1 := HM.out.next hb1
    obtain ⟨c0, c1, c2⟩ := cells3v hM1.r
    have f0 : ∀ o, w1.frozen? ⟨w.heap.size + 1 + 1, o, none⟩ = false := frz hM1.r
    have HM1 : Hid (MG w k' n' s' mb n w1) := hM1
    clear hM1 hb1 HM HN
    go_wp2_with fail
    refine fin3 HM1.out.r (Q := bodyPost _ _ _ _ _) ?_
    clear c0 c1 c2 f0
    intro w2 hq2 hk2
    obtain ⟨d0, d1, d2⟩ := cells3v hq2
    exact bodyPost_ret (v := VV 4 6 nul) (by simp [results, Tryz.results206, go_sem, d0, d1, d2]) rfl ⟨.inr ⟨rfl, HQ.out⟩, HM1.out.below.trans (hk2 _ (by omega))⟩
end Go.Proofs.YtoebppmagkijjaaGreatDoor.ev
/- Package eval: how many values of a column are equal to another one. Conditions: as each theorem says. -/
namespace Go.Proofs.YtoebppmagkijjaaGreatDoor.ev
open Go.RowKit
/-- How many of the first n are so. -/
def cntB (b : Nat → Bool) : Nat → Nat
  | 0 => 0
  | n + 1 => cntB b n + (if b n = true then 1 else 0)
theorem cntB_le (b : Nat → Bool) (n : Nat) : cntB b n ≤ n := by
  induction n with
  | zero => exact Nat.le_refl _
  | succ n ih => unfold cntB; split <;> omega
structure CG (w : World) (k' n' : Int) (s' : ByteArray) (mb : Option Nat) (n : Nat) (wx : World) : Prop where
  g : wx.heap[w.heap.size]? = some (.cells #[.map mb, .int .i64 1, .int .i64 1, .int .i64 1, .int .i64 (n : Int)] 185 (0, 0))
  v : wx.heap[w.heap.size + 1]? = some (.cells #[.int .i64 k', .int .i64 n', .string s'] 31 (0, 0))
  r : wx.heap[w.heap.size + 1 + 1]? = some (.cells #[.int .i64 0, .int .i64 0, .string nul] 31 (0, 0))
  below : Below w.heap.size w wx
theorem CG.next {w wx wy : World} {k' n' : Int} {s' : ByteArray} {mb : Option Nat} {n : Nat} (h : CG w k' n' s' mb n wx) (hb : Below wx.heap.size wx wy) : CG w k' n' s' mb n wy :=
  ⟨(hb.block _ (fm.lt_blk h.g)).trans h.g, (hb.block _ (fm.lt_blk h.v)).trans h.v, (hb.block _ (fm.lt_blk h.r)).trans h.r, bnext h.below hb h.below.size⟩
set_option maxRecDepth 100000 in
set_option maxHeartbeats 4000000 in
theorem countIf_any (mb : Option Nat) (n : Nat) (hn : 1 ≤ n) (hn2 : n ≤ 99) (k m : Nat → Int) (z : Nat → ByteArray) (k' n' : Int) (s' : ByteArray) (w : World)
    (HL : Hid (∀ i wx, i < n → Below w.heap.size w wx → (Instr.lookup 68 (.map mb) (.agg #[.int .i64 1, .int .i64 ((i : Int) + 1)]) false).run Tryz.prog wx = .ok (VV (k i) (m i) (z i)) wx)) :
    Calls Tryz.prog 210 #[gB mb n, VV k' n' s'] w fun e w' => e = .returned (VV 1 ((cntB (fun i => eqT (k i) (m i) (z i) k' n' s') n : Nat) : Int) nul) ∧ Below w.heap.size w w' := by
  have HVA : Hid (∀ wx, Below w.heap.size w wx → Calls Tryz.prog 253 #[gB mb n] wx fun e w' => ∃ B cs, e = .returned (.slice (some ⟨B, 0, none⟩) n n) ∧ VB w' B n cs ∧ (∀ i, i < n → cs i 0 = .int .i64 (k i) ∧ cs i 1 = .int .i64 (m i) ∧ cs i 2 = .string (z i)) ∧ Below wx.heap.size wx w') := fun wx hb => values_any mb n hn hn2 k m z wx (fun i wy hi hy => HL.out i wy hi (bnext hb hy hb.size))
  have HEQ : Hid (∀ wx, Calls Tryz.prog 254 #[VV k' n' s'] wx fun e w' => ∃ p, e = .returned (.func (.func 273) #[] #[.pointer (some ⟨p, 0, none⟩)]) ∧ Cap w' p k' n' s' ∧ Below wx.heap.size wx w') := fun wx => equalTo_any k' n' s' wx
  obtain ⟨C, hC⟩ : ∃ C : Nat → Nat, cntB (fun i => eqT (k i) (m i) (z i) k' n' s') = C := ⟨_, rfl⟩
  have HC : Hid (cntB (fun i => eqT (k i) (m i) (z i) k' n' s') = C) := hC
  have HC0 : Hid ((0 : Int) = ((C 0 : Nat) : Int)) := by unfold Hid; rw [← hC]; rfl
  have HLE : Hid (∀ j, C j ≤ j) := fun j => by rw [← hC]; exact cntB_le _ j
  rw [hC]
  obtain ⟨hG, hA, hR, hbW⟩ := three w (.cells #[.map mb, .int .i64 1, .int .i64 1, .int .i64 1, .int .i64 (n : Int)] 185) (.cells #[.int .i64 k', .int .i64 n', .string s'] 31) (.cells #[.int .i64 0, .int .i64 0, .string nul] 31)
  have hM : CG w k' n' s' mb n (((w.alloc (.cells #[.map mb, .int .i64 1, .int .i64 1, .int .i64 1, .int .i64 (n : Int)] 185)).alloc (.cells #[.int .i64 k', .int .i64 n', .string s'] 31)).alloc (.cells #[.int .i64 0, .int .i64 0, .string nul] 31)) := ⟨hG, hA, hR, hbW⟩
  obtain ⟨a0, a1, a2⟩ := cells3v hA
  have HM : Hid (CG w k' n' s' mb n (((w.alloc (.cells #[.map mb, .int .i64 1, .int .i64 1, .int .i64 1, .int .i64 (n : Int)] 185)).alloc (.cells #[.int .i64 k', .int .i64 n', .string s'] 31)).alloc (.cells #[.int .i64 0, .int .i64 0, .string nul] 31))) := hM
  clear hG hA hR hbW hM HL hC
  go_enter Tryz.func210, Tryz.ntmps210
  go_wp2_with fail
  refine (HEQ.out _).mono ?_
  clear a0 a1 a2
  rintro e w1 ⟨p, rfl, hcap, hb1⟩
  have hM1 := HM.out.next hb1
  have HM1 : Hid (CG w k' n' s' mb n w1) := hM1
  have HCP : Hid (Cap w1 p k' n' s') := hcap
  obtain ⟨c0, c1, c2, c3, c4⟩ := cells5v hM1.g
  clear hM1 hcap hb1 HM HEQ
  go_wp2_with fail
  refine (HVA.out _ HM1.out.below).mono ?_
  clear c0 c1 c2 c3 c4
  rintro e w2 ⟨B, cs, rfl, hvb, hcs, hb2⟩
  have HM2 : Hid (CG w k' n' s' mb n w2) := HM1.out.next hb2
  have HVC : Hid (VC w2 B n cs p k' n' s' w2) := ⟨hvb, HCP.out.next hb2, Below.refl _ _⟩
  have HCS : Hid (∀ i, i < n → cs i 0 = .int .i64 (k i) ∧ cs i 1 = .int .i64 (m i) ∧ cs i 2 = .string (z i)) := hcs
  clear hvb hcs hb2 HM1 HCP HVA
  go_wp2_with fail
  go_loopw [6, 14] (fun q i wr => ∃ j : Nat, i = .int .i64 j ∧ j ≤ n ∧ q = .int .i64 ((C j : Nat) : Int) ∧ VC w2 B n cs p k' n' s' wr) (fun _ i _ => n - (intOf i).toNat)
  case atStart => exact ⟨0, rfl, Nat.zero_le _, by rw [← HC0.out], HVC.out⟩
  case round =>
    clear HVC HC0
    obtain ⟨j, rfl, hj, rfl, hS⟩ := hrel
    have HS : Hid (VC w2 B n cs p k' n' s' wr) := hS
    by_cases hlt : j < n
    · have hlt' : (j : Int) < (n : Int) := by omega
      have hj0 : (0 : Int) ≤ (j : Int) := by omega
      obtain ⟨q0, q1, q2⟩ := HCS.out j hlt
      have y0 := hS.vb.cell hlt (j := 0) (by omega)
      have y1 := hS.vb.cell hlt (j := 1) (by omega)
      have y2 := hS.vb.cell hlt (j := 2) (by omega)
      simp only [Nat.add_zero] at y0
      rw [q0] at y0
      rw [q1] at y1
      rw [q2] at y2
      have hba : Below wr.heap.size wr (wr.alloc (.cells #[.int .i64 (k j), .int .i64 (m j), .string (z j)] 31)) := (Below.refl _ _).alloc (Nat.le_refl _) _
      have hS1 := hS.next hba
      have HS1 : Hid (VC w2 B n cs p k' n' s' (wr.alloc (.cells #[.int .i64 (k j), .int .i64 (m j), .string (z j)] 31))) := hS1
      obtain ⟨o0, o1, o2⟩ := cells3v (heap_alloc_new wr (.cells #[.int .i64 (k j), .int .i64 (m j), .string (z j)] 31))
      have HW : Hid (Calls Tryz.prog 273 #[VV (k j) (m j) (z j), .pointer (some ⟨p, 0, none⟩)] (wr.alloc (.cells #[.int .i64 (k j), .int .i64 (m j), .string (z j)] 31)) fun e w' => e = .returned (.bool (eqT (k j) (m j) (z j) k' n' s')) ∧ Below (wr.alloc (.cells #[.int .i64 (k j), .int .i64 (m j), .string (z j)] 31)).heap.size (wr.alloc (.cells #[.int .i64 (k j), .int .i64 (m j), .string (z j)] 31)) w') := isWanted_any _ _ _ _ _ _ p _ hS1.cap
      have HCJ : Hid (C (j + 1) = C j + (if eqT (k j) (m j) (z j) k' n' s' = true then 1 else 0)) := by unfold Hid; rw [← HC.out]; rfl
      have hcj : C j ≤ 99 := by have := HLE.out j; omega
      clear hS hS1 hba q0 q1 q2
      cases hb : eqT (k j) (m j) (z j) k' n' s' with
      | true =>
        rw [hb] at HW HCJ
        clear hb
        go_wp2_with fail
        refine HW.out.mono ?_
        clear y0 y1 y2 o0 o1 o2
        rintro e w3 ⟨rfl, hb3⟩
        have HS3 : Hid (VC w2 B n cs p k' n' s' w3) := HS1.out.next hb3
        have h1 : (0 : Int) ≤ ((C j : Nat) : Int) := by omega
        have h2 : ((C j : Nat) : Int) ≤ 99 := by omega
        clear hb3 HW HS1 HS
        go_wp2_with fail
        exact ⟨⟨j + 1, by simp, hlt, by rw [HCJ.out]; simp, HS3.out⟩, by simp [intOf]; omega⟩
      | false =>
        rw [hb] at HW HCJ
        clear hb
        go_wp2_with fail
        refine HW.out.mono ?_
        clear y0 y1 y2 o0 o1 o2
        rintro e w3 ⟨rfl, hb3⟩
        have HS3 : Hid (VC w2 B n cs p k' n' s' w3) := HS1.out.next hb3
        clear hb3 HW HS1 HS
        go_wp2_with fail
        exact ⟨⟨j + 1, by simp, hlt, by rw [HCJ.out]; simp, HS3.out⟩, by simp [intOf]; omega⟩
    · have hkn : n = j := by omega
      subst hkn
      have HM3 : Hid (CG w k' n' s' mb n wr) := HM2.out.next hS.below
      have HN : Hid (∀ wx, Calls Tryz.prog 44 #[.int .i64 ((C n : Nat) : Int)] wx fun e w' => e = .returned (VV 1 ((C n : Nat) : Int) nul) ∧ Below wx.heap.size wx w') := fun wx => number_any _ wx
      clear hS
      go_wp2_with fail
      refine (HN.out _).mono ?_
      rintro e w3 ⟨rfl, hb3⟩
      have hM4 := HM3.out.next hb3
      obtain ⟨c0, c1, c2⟩ := cells3v hM4.r
      have f0 : ∀ o, w3.frozen? ⟨w.heap.size + 1 + 1, o, none⟩ = false := frz hM4.r
      have HM4 : Hid (CG w k' n' s' mb n w3) := hM4
      clear hM4 hb3 HM3 HM2 HN
      go_wp2_with fail
      refine fin3 HM4.out.r (Q := bodyPost _ _ _ _ _) ?_
      clear c0 c1 c2 f0
      intro w4 hq4 hk4
      obtain ⟨d0, d1, d2⟩ := cells3v hq4
      exact bodyPost_ret (v := VV 1 ((C n : Nat) : Int) nul) (by simp [results, Tryz.results210, go_sem, d0, d1, d2]) rfl ⟨rfl, HM4.out.below.trans (hk4 _ (by omega))⟩
end Go.Proofs.YtoebppmagkijjaaGreatDoor.ev
/- Package eval: the first value of a column that is equal to another one. Conditions: as each theorem says. -/
namespace Go.Proofs.YtoebppmagkijjaaGreatDoor.ev
open Go.RowKit
set_option maxRecDepth 100000 in
set_option maxHeartbeats 4000000 in
theorem lookup_any (mb : Option Nat) (n : Nat) (hn : 1 ≤ n) (hn2 : n ≤ 99) (k m : Nat → Int) (z : Nat → ByteArray) (k' n' : Int) (s' : ByteArray) (w : World)
    (HL : Hid (∀ i wx, i < n → Below w.heap.size w wx → (Instr.lookup 68 (.map mb) (.agg #[.int .i64 1, .int .i64 ((i : Int) + 1)]) false).run Tryz.prog wx = .ok (VV (k i) (m i) (z i)) wx)) :
    Calls Tryz.prog 208 #[VV k' n' s', gB mb n, .int .i64 1] w fun e w' => ((∃ j : Nat, j < n ∧ e = .returned (VV (k j) (m j) (z j)) ∧ eqT (k j) (m j) (z j) k' n' s' = true ∧ ∀ i, i < j → eqT (k i) (m i) (z i) k' n' s' = false) ∨ (e = .returned (VV 4 6 nul) ∧ ∀ i, i < n → eqT (k i) (m i) (z i) k' n' s' = false)) ∧ Below w.heap.size w w' := by
  have HH : Hid (∀ wx, Calls Tryz.prog 250 #[gB mb n, .int .i64 1, .int .i64 1] wx fun e w' => e = .returned (.bool true) ∧ Below wx.heap.size wx w') := fun wx => has_yes mb n 1 hn2 (by omega) (by omega) wx
  have HRW : Hid (∀ wx, Calls Tryz.prog 200 #[gB mb n] wx fun e w' => e = .returned (.int .i64 (n : Int)) ∧ Below wx.heap.size wx w') := fun wx => rows_any mb n hn2 wx
  have HAT : Hid (∀ j wx, j < n → Below w.heap.size w wx → Calls Tryz.prog 251 #[gB mb n, .int .i64 ((j : Int) + 1), .int .i64 1] wx fun e w' => e = .returned (VV (k j) (m j) (z j)) ∧ Below wx.heap.size wx w') := fun j wx hj hb => at_any mb n ((j : Int) + 1) (by omega) (by omega) _ _ _ wx (fun wy hy => HL.out j wy hj (bnext hb hy hb.size))
  have HEQ : Hid (∀ wx, Calls Tryz.prog 254 #[VV k' n' s'] wx fun e w' => ∃ p, e = .returned (.func (.func 273) #[] #[.pointer (some ⟨p, 0, none⟩)]) ∧ Cap w' p k' n' s' ∧ Below wx.heap.size wx w') := fun wx => equalTo_any k' n' s' wx
  obtain ⟨hA, hG, hR, hbW⟩ := three w (.cells #[.int .i64 k', .int .i64 n', .string s'] 31) (.cells #[.map mb, .int .i64 1, .int .i64 1, .int .i64 1, .int .i64 (n : Int)] 185) (.cells #[.int .i64 0, .int .i64 0, .string nul] 31)
  have hM : MG w k' n' s' mb n (((w.alloc (.cells #[.int .i64 k', .int .i64 n', .string s'] 31)).alloc (.cells #[.map mb, .int .i64 1, .int .i64 1, .int .i64 1, .int .i64 (n : Int)] 185)).alloc (.cells #[.int .i64 0, .int .i64 0, .string nul] 31)) := ⟨hA, hG, hR, hbW⟩
  obtain ⟨c0, c1, c2, c3, c4⟩ := cells5v hG
  have HM : Hid (MG w k' n' s' mb n (((w.alloc (.cells #[.int .i64 k', .int .i64 n', .string s'] 31)).alloc (.cells #[.map mb, .int .i64 1, .int .i64 1, .int .i64 1, .int .i64 (n : Int)] 185)).alloc (.cells #[.int .i64 0, .int .i64 0, .string nul] 31))) := hM
  clear hG hA hR hbW hM HL
  go_enter Tryz.func208, Tryz.ntmps208
  go_wp2_with fail
  refine (HH.out _).mono ?_
  clear c0 c1 c2 c3 c4
  rintro e w1 ⟨rfl, hb1⟩
  have hM1 := HM.out.next hb1
  have HM1 : Hid (MG w k' n' s' mb n w1) := hM1
  obtain ⟨a0, a1, a2⟩ := cells3v hM1.v
  clear hM1 hb1 HM HH
  go_wp2_with fail
  refine (HEQ.out _).mono ?_
  clear a0 a1 a2
  rintro e w2 ⟨p, rfl, hcap, hb2⟩
  have HM2 : Hid (MG w k' n' s' mb n w2 ∧ Cap w2 p k' n' s') := ⟨HM1.out.next hb2, hcap⟩
  clear hcap hb2 HM1 HEQ
  go_wp2_with fail
  go_loopw [8] (fun i wr => ∃ j : Nat, i = .int .i64 ((j : Int) + 1) ∧ j ≤ n ∧ (MG w k' n' s' mb n wr ∧ Cap wr p k' n' s') ∧ ∀ i, i < j → eqT (k i) (m i) (z i) k' n' s' = false) (fun i _ => n + 1 - (intOf i).toNat)
  case atStart => exact ⟨0, rfl, Nat.zero_le _, HM2.out, fun i hi => absurd hi (Nat.not_lt_zero _)⟩
  case round =>
    clear HM2
    obtain ⟨j, rfl, hj, hS, hd⟩ := hrel
    have HS : Hid (MG w k' n' s' mb n wr ∧ Cap wr p k' n' s') := hS
    have HD : Hid (∀ i, i < j → eqT (k i) (m i) (z i) k' n' s' = false) := hd
    have hjb : (j : Int) ≤ 99 := by omega
    have hj0 : (0 : Int) ≤ (j : Int) := by omega
    obtain ⟨c0, c1, c2, c3, c4⟩ := cells5v hS.1.g
    clear hS hd
    by_cases hlt : j < n
    · have hlt' : (j : Int) + 1 ≤ (n : Int) := by omega
      go_wp2_with fail
      refine (HRW.out _).mono ?_
      clear c0 c1 c2 c3 c4
      rintro e w3 ⟨rfl, hb3⟩
      have HS3 : Hid (MG w k' n' s' mb n w3 ∧ Cap w3 p k' n' s') := ⟨HS.out.1.next hb3, HS.out.2.next hb3⟩
      obtain ⟨c0, c1, c2, c3, c4⟩ := cells5v HS3.out.1.g
      clear hb3 HS HRW
      go_wp2_with fail
      refine (HAT.out j _ hlt HS3.out.1.below).mono ?_
      clear c0 c1 c2 c3 c4
      rintro e w4 ⟨rfl, hb4⟩
      have HS4 : Hid (MG w k' n' s' mb n w4 ∧ Cap w4 p k' n' s') := ⟨HS3.out.1.next hb4, HS3.out.2.next hb4⟩
      clear hb4 HS3
      have HW : Hid (Calls Tryz.prog 273 #[VV (k j) (m j) (z j), .pointer (some ⟨p, 0, none⟩)] w4 fun e w' => e = .returned (.bool (eqT (k j) (m j) (z j) k' n' s')) ∧ Below w4.heap.size w4 w') := isWanted_any _ _ _ _ _ _ p _ HS4.out.2
      cases hb : eqT (k j) (m j) (z j) k' n' s' with
      | true =>
        have HE : Hid (eqT (k j) (m j) (z j) k' n' s' = true) := hb
        rw [hb] at HW
        clear hb
        go_wp2_with fail
        refine HW.out.mono ?_
        rintro e w5 ⟨rfl, hb5⟩
        have HS5 : Hid (MG w k' n' s' mb n w5 ∧ Cap w5 p k' n' s') := ⟨HS4.out.1.next hb5, HS4.out.2.next hb5⟩
        obtain ⟨c0, c1, c2, c3, c4⟩ := cells5v HS5.out.1.g
        clear hb5 HS4 HW
        go_wp2_with fail
        refine (HAT.out j _ hlt HS5.out.1.below).mono ?_
        clear c0 c1 c2 c3 c4
        rintro e w6 ⟨rfl, hb6⟩
        have hM6 := HS5.out.1.next hb6
        obtain ⟨d0, d1, d2⟩ := cells3v hM6.r
        have f0 : ∀ o, w6.frozen? ⟨w.heap.size + 1 + 1, o, none⟩ = false := frz hM6.r
        have HM6 : Hid (MG w k' n' s' mb n w6) := hM6
        clear hM6 hb6 HS5 HAT
        go_wp2_with fail
        refine fin3 HM6.out.r (Q := bodyPost _ _ _ _ _) ?_
        clear d0 d1 d2 f0
        intro w7 hq7 hk7
        obtain ⟨d0, d1, d2⟩ := cells3v hq7
        exact bodyPost_ret (v := VV (k j) (m j) (z j)) (by simp [results, Tryz.results208, go_sem, d0, d1, d2]) rfl ⟨.inl ⟨j, hlt, rfl, HE.out, HD.out⟩, HM6.out.below.trans (hk7 _ (by omega))⟩
      | false =>
        have HE : Hid (eqT (k j) (m j) (z j) k' n' s' = false) := hb
        rw [hb] at HW
        clear hb
        go_wp2_with fail
        refine HW.out.mono ?_
        rintro e w5 ⟨rfl, hb5⟩
        have HS5 : Hid (MG w k' n' s' mb n w5 ∧ Cap w5 p k' n' s') := ⟨HS4.out.1.next hb5, HS4.out.2.next hb5⟩
        clear hb5 HS4 HW HAT
        go_wp2_with fail
        exact ⟨⟨j + 1, by simp, hlt, HS5.out, fun i hi => by
          by_cases e : i = j
          · subst e; exact HE.out
          · exact HD.out i (by omega)⟩, by simp [intOf]; omega⟩
    · have hkn : n = j := by omega
      subst hkn
      have hlt' : ¬ (n : Int) + 1 ≤ (n : Int) := by omega
      have HN : Hid (∀ wx, Calls Tryz.prog 47 #[.int .i64 6] wx fun e w' => e = .returned (VV 4 6 nul) ∧ Below wx.heap.size wx w') := fun wx => bad_any _ wx
      go_wp2_with fail
      refine (HRW.out _).mono ?_
      clear c0 c1 c2 c3 c4
      rintro e w3 ⟨rfl, hb3⟩
      have HS3 : Hid (MG w k' n' s' mb n w3) := HS.out.1.next hb3
      clear hb3 HS HRW
      go_wp2_with fail
      refine (HN.out _).mono ?_
      rintro e w4 ⟨rfl, hb4⟩
      have hM6 := HS3.out.next hb4
      obtain ⟨d0, d1, d2⟩ := cells3v hM6.r
      have f0 : ∀ o, w4.frozen? ⟨w.heap.size + 1 + 1, o, none⟩ = false := frz hM6.r
      have HM6 : Hid (MG w k' n' s' mb n w4) := hM6
      clear hM6 hb4 HS3 HAT HN
      go_wp2_with fail
      refine fin3 HM6.out.r (Q := bodyPost _ _ _ _ _) ?_
      clear d0 d1 d2 f0
      intro w7 hq7 hk7
      obtain ⟨d0, d1, d2⟩ := cells3v hq7
      exact bodyPost_ret (v := VV 4 6 nul) (by simp [results, Tryz.results208, go_sem, d0, d1, d2]) rfl ⟨.inr ⟨rfl, HD.out⟩, HM6.out.below.trans (hk7 _ (by omega))⟩
end Go.Proofs.YtoebppmagkijjaaGreatDoor.ev
