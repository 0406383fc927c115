/- Package eval: which groups do not have a name. Conditions: as each theorem says. -/
import Derived.Test.YtoaejcppfmjhdaaGreatDoorEb
import Derived.Laws.EntriesVeiled
import Derived.Test.YtoaejcppfmjhdaaGreatDoorEg
import Derived.LoopN
namespace Go.Proofs.YtoaejcppfmjhdaaGreatDoor.ev
open Go.RowKit
/-- No function. -/
abbrev noF : Value := .agg #[.int .i64 0, .int .i64 0, .nilFunc]
theorem ofMany_len (w : World) :
    Calls Tryz.prog 113 #[.string ⟨#[76, 69, 78]⟩] w fun e w' => e = .returned noF ∧ Below w.heap.size w w' := by
  go_enter Tryz.func113, Tryz.ntmps113
  go_wp2_with fail
  exact bodyPost_ret (v := noF) (by simp [results, Tryz.results113, go_sem]) rfl ⟨rfl, (Below.refl _ _).alloc (Nat.le_refl _) _⟩
theorem ofMany_left (w : World) :
    Calls Tryz.prog 113 #[.string ⟨#[76, 69, 70, 84]⟩] w fun e w' => e = .returned noF ∧ Below w.heap.size w w' := by
  go_enter Tryz.func113, Tryz.ntmps113
  go_wp2_with fail
  exact bodyPost_ret (v := noF) (by simp [results, Tryz.results113, go_sem]) rfl ⟨rfl, (Below.refl _ _).alloc (Nat.le_refl _) _⟩
theorem ofMany_right (w : World) :
    Calls Tryz.prog 113 #[.string ⟨#[82, 73, 71, 72, 84]⟩] w fun e w' => e = .returned noF ∧ Below w.heap.size w w' := by
  go_enter Tryz.func113, Tryz.ntmps113
  go_wp2_with fail
  exact bodyPost_ret (v := noF) (by simp [results, Tryz.results113, go_sem]) rfl ⟨rfl, (Below.refl _ _).alloc (Nat.le_refl _) _⟩
theorem ofMany_mid (w : World) :
    Calls Tryz.prog 113 #[.string ⟨#[77, 73, 68]⟩] w fun e w' => e = .returned noF ∧ Below w.heap.size w w' := by
  go_enter Tryz.func113, Tryz.ntmps113
  go_wp2_with fail
  exact bodyPost_ret (v := noF) (by simp [results, Tryz.results113, go_sem]) rfl ⟨rfl, (Below.refl _ _).alloc (Nat.le_refl _) _⟩
theorem ofMany_find (w : World) :
    Calls Tryz.prog 113 #[.string ⟨#[70, 73, 78, 68]⟩] w fun e w' => e = .returned noF ∧ Below w.heap.size w w' := by
  go_enter Tryz.func113, Tryz.ntmps113
  go_wp2_with fail
  exact bodyPost_ret (v := noF) (by simp [results, Tryz.results113, go_sem]) rfl ⟨rfl, (Below.refl _ _).alloc (Nat.le_refl _) _⟩
theorem ofMany_exact (w : World) :
    Calls Tryz.prog 113 #[.string ⟨#[69, 88, 65, 67, 84]⟩] w fun e w' => e = .returned noF ∧ Below w.heap.size w w' := by
  go_enter Tryz.func113, Tryz.ntmps113
  go_wp2_with fail
  exact bodyPost_ret (v := noF) (by simp [results, Tryz.results113, go_sem]) rfl ⟨rfl, (Below.refl _ _).alloc (Nat.le_refl _) _⟩
theorem ofChoice_len (w : World) :
    Calls Tryz.prog 114 #[.string ⟨#[76, 69, 78]⟩] w fun e w' => e = .returned noF ∧ Below w.heap.size w w' := by
  go_enter Tryz.func114, Tryz.ntmps114
  go_wp2_with fail
  exact bodyPost_ret (v := noF) (by simp [results, Tryz.results114, go_sem]) rfl ⟨rfl, (Below.refl _ _).alloc (Nat.le_refl _) _⟩
theorem ofChoice_left (w : World) :
    Calls Tryz.prog 114 #[.string ⟨#[76, 69, 70, 84]⟩] w fun e w' => e = .returned noF ∧ Below w.heap.size w w' := by
  go_enter Tryz.func114, Tryz.ntmps114
  go_wp2_with fail
  exact bodyPost_ret (v := noF) (by simp [results, Tryz.results114, go_sem]) rfl ⟨rfl, (Below.refl _ _).alloc (Nat.le_refl _) _⟩
theorem ofChoice_right (w : World) :
    Calls Tryz.prog 114 #[.string ⟨#[82, 73, 71, 72, 84]⟩] w fun e w' => e = .returned noF ∧ Below w.heap.size w w' := by
  go_enter Tryz.func114, Tryz.ntmps114
  go_wp2_with fail
  exact bodyPost_ret (v := noF) (by simp [results, Tryz.results114, go_sem]) rfl ⟨rfl, (Below.refl _ _).alloc (Nat.le_refl _) _⟩
theorem ofChoice_mid (w : World) :
    Calls Tryz.prog 114 #[.string ⟨#[77, 73, 68]⟩] w fun e w' => e = .returned noF ∧ Below w.heap.size w w' := by
  go_enter Tryz.func114, Tryz.ntmps114
  go_wp2_with fail
  exact bodyPost_ret (v := noF) (by simp [results, Tryz.results114, go_sem]) rfl ⟨rfl, (Below.refl _ _).alloc (Nat.le_refl _) _⟩
theorem ofChoice_find (w : World) :
    Calls Tryz.prog 114 #[.string ⟨#[70, 73, 78, 68]⟩] w fun e w' => e = .returned noF ∧ Below w.heap.size w w' := by
  go_enter Tryz.func114, Tryz.ntmps114
  go_wp2_with fail
  exact bodyPost_ret (v := noF) (by simp [results, Tryz.results114, go_sem]) rfl ⟨rfl, (Below.refl _ _).alloc (Nat.le_refl _) _⟩
theorem ofChoice_exact (w : World) :
    Calls Tryz.prog 114 #[.string ⟨#[69, 88, 65, 67, 84]⟩] w fun e w' => e = .returned noF ∧ Below w.heap.size w w' := by
  go_enter Tryz.func114, Tryz.ntmps114
  go_wp2_with fail
  exact bodyPost_ret (v := noF) (by simp [results, Tryz.results114, go_sem]) rfl ⟨rfl, (Below.refl _ _).alloc (Nat.le_refl _) _⟩
theorem ofNumbers_len (w : World) :
    Calls Tryz.prog 115 #[.string ⟨#[76, 69, 78]⟩] w fun e w' => e = .returned noF ∧ Below w.heap.size w w' := by
  go_enter Tryz.func115, Tryz.ntmps115
  go_wp2_with fail
  exact bodyPost_ret (v := noF) (by simp [results, Tryz.results115, go_sem]) rfl ⟨rfl, (Below.refl _ _).alloc (Nat.le_refl _) _⟩
theorem ofNumbers_left (w : World) :
    Calls Tryz.prog 115 #[.string ⟨#[76, 69, 70, 84]⟩] w fun e w' => e = .returned noF ∧ Below w.heap.size w w' := by
  go_enter Tryz.func115, Tryz.ntmps115
  go_wp2_with fail
  exact bodyPost_ret (v := noF) (by simp [results, Tryz.results115, go_sem]) rfl ⟨rfl, (Below.refl _ _).alloc (Nat.le_refl _) _⟩
theorem ofNumbers_right (w : World) :
    Calls Tryz.prog 115 #[.string ⟨#[82, 73, 71, 72, 84]⟩] w fun e w' => e = .returned noF ∧ Below w.heap.size w w' := by
  go_enter Tryz.func115, Tryz.ntmps115
  go_wp2_with fail
  exact bodyPost_ret (v := noF) (by simp [results, Tryz.results115, go_sem]) rfl ⟨rfl, (Below.refl _ _).alloc (Nat.le_refl _) _⟩
theorem ofNumbers_mid (w : World) :
    Calls Tryz.prog 115 #[.string ⟨#[77, 73, 68]⟩] w fun e w' => e = .returned noF ∧ Below w.heap.size w w' := by
  go_enter Tryz.func115, Tryz.ntmps115
  go_wp2_with fail
  exact bodyPost_ret (v := noF) (by simp [results, Tryz.results115, go_sem]) rfl ⟨rfl, (Below.refl _ _).alloc (Nat.le_refl _) _⟩
theorem ofNumbers_find (w : World) :
    Calls Tryz.prog 115 #[.string ⟨#[70, 73, 78, 68]⟩] w fun e w' => e = .returned noF ∧ Below w.heap.size w w' := by
  go_enter Tryz.func115, Tryz.ntmps115
  go_wp2_with fail
  exact bodyPost_ret (v := noF) (by simp [results, Tryz.results115, go_sem]) rfl ⟨rfl, (Below.refl _ _).alloc (Nat.le_refl _) _⟩
theorem ofNumbers_exact (w : World) :
    Calls Tryz.prog 115 #[.string ⟨#[69, 88, 65, 67, 84]⟩] w fun e w' => e = .returned noF ∧ Below w.heap.size w w' := by
  go_enter Tryz.func115, Tryz.ntmps115
  go_wp2_with fail
  exact bodyPost_ret (v := noF) (by simp [results, Tryz.results115, go_sem]) rfl ⟨rfl, (Below.refl _ _).alloc (Nat.le_refl _) _⟩
end Go.Proofs.YtoaejcppfmjhdaaGreatDoor.ev
/- Package eval: a function by its name. Conditions: as each theorem says. -/
namespace Go.Proofs.YtoaejcppfmjhdaaGreatDoor.ev
open Go.RowKit
theorem rounds_step {P : Program} {c : Code} {Q : Exit → Act → World → Prop} {n : Nat} {a : Act} {w : World}
    (h : ∀ K, Hid (∀ a w, Code.rounds P c Q n a w → K a w) → c.wp P (Exit.then K Q) a w) : Code.rounds P c Q (n + 1) a w := h _ (fun _ _ h => h)
theorem ne_nil (W : World) : (binOp BinOp.neq 118 Value.nilFunc Value.nilFunc).run Tryz.prog W = .ok (.bool false) W := by
  have h : (Op.equal 118 Value.nilFunc Value.nilFunc).run Tryz.prog W = .ok true W := by
    unfold Op.equal
    rw [show Op.maxDepth = Op.maxDepth - 1 + 1 from rfl]
    unfold Op.equalIn
    simp [go_sem]
  simp [binOp, go_sem, h]
theorem ne_fn (p q : Nat) (W : World) : (binOp BinOp.neq 118 (.func (.func 245) #[] #[.pointer (some ⟨p, 0, none⟩), .pointer (some ⟨q, 0, none⟩)]) Value.nilFunc).run Tryz.prog W = .ok (.bool true) W := by
  have h : (Op.equal 118 (.func (.func 245) #[] #[.pointer (some ⟨p, 0, none⟩), .pointer (some ⟨q, 0, none⟩)]) Value.nilFunc).run Tryz.prog W = .ok false W := by
    unfold Op.equal
    rw [show Op.maxDepth = Op.maxDepth - 1 + 1 from rfl]
    unfold Op.equalIn
    simp [go_sem]
  simp [binOp, go_sem, h]
theorem bstep {n : Nat} {a b c : World} {o : Obj} (h : Below n a b) (h2 : Below b.heap.size b c) (hn : n ≤ b.heap.size) : Below n a (c.alloc o) := (bnext h h2 hn).alloc (Nat.le_trans hn h2.size) _
theorem ix0 (W : World) : (Instr.index 150 (.agg #[.func (.func 113) #[] #[], .func (.func 114) #[] #[], .func (.func 115) #[] #[], .func (.func 116) #[] #[], .func (.func 117) #[] #[]]) (.int .i64 0)).run Tryz.prog W = .ok (.func (.func 113) #[] #[]) W := by simp [Instr.index, go_sem]
theorem ix1 (W : World) : (Instr.index 150 (.agg #[.func (.func 113) #[] #[], .func (.func 114) #[] #[], .func (.func 115) #[] #[], .func (.func 116) #[] #[], .func (.func 117) #[] #[]]) (.int .i64 1)).run Tryz.prog W = .ok (.func (.func 114) #[] #[]) W := by simp [Instr.index, go_sem]
theorem ix2 (W : World) : (Instr.index 150 (.agg #[.func (.func 113) #[] #[], .func (.func 114) #[] #[], .func (.func 115) #[] #[], .func (.func 116) #[] #[], .func (.func 117) #[] #[]]) (.int .i64 2)).run Tryz.prog W = .ok (.func (.func 115) #[] #[]) W := by simp [Instr.index, go_sem]
theorem ix3 (W : World) : (Instr.index 150 (.agg #[.func (.func 113) #[] #[], .func (.func 114) #[] #[], .func (.func 115) #[] #[], .func (.func 116) #[] #[], .func (.func 117) #[] #[]]) (.int .i64 3)).run Tryz.prog W = .ok (.func (.func 116) #[] #[]) W := by simp [Instr.index, go_sem]
set_option maxRecDepth 8000 in
theorem functionOf_len (w : World) :
    Calls Tryz.prog 83 #[.string ⟨#[76, 69, 78]⟩] w fun e w' => ∃ p q, e = .returned (fnV 1 p q) ∧ Taking w' ⟨#[116]⟩ 184 p q ∧ Below w.heap.size w w' := by
  have H1 : Hid (∀ wx, Calls Tryz.prog 113 #[.string ⟨#[76, 69, 78]⟩] wx fun e w' => e = .returned noF ∧ Below wx.heap.size wx w') := ofMany_len
  have H2 : Hid (∀ wx, Calls Tryz.prog 114 #[.string ⟨#[76, 69, 78]⟩] wx fun e w' => e = .returned noF ∧ Below wx.heap.size wx w') := ofChoice_len
  have H3 : Hid (∀ wx, Calls Tryz.prog 115 #[.string ⟨#[76, 69, 78]⟩] wx fun e w' => e = .returned noF ∧ Below wx.heap.size wx w') := ofNumbers_len
  have H4 : Hid (∀ wx, Calls Tryz.prog 116 #[.string ⟨#[76, 69, 78]⟩] wx fun e w' => ∃ p q, e = .returned (fnV 1 p q) ∧ Taking w' ⟨#[116]⟩ 184 p q ∧ Below wx.heap.size wx w') := ofTexts_len
  go_enter Tryz.func83, Tryz.ntmps83
  go_wp2_with fail
  refine wp_loop_rounds 4 ?_
  obtain ⟨w0, hW⟩ : ∃ W, W = (w.alloc (.cells #[.int .i64 0, .int .i64 0, .nilFunc] 120)).alloc (.cells #[.func (.func 113) #[] #[], .func (.func 114) #[] #[], .func (.func 115) #[] #[], .func (.func 116) #[] #[], .func (.func 117) #[] #[]] 150) := ⟨_, rfl⟩
  rw [← hW]
  have HW : Hid (w0 = (w.alloc (.cells #[.int .i64 0, .int .i64 0, .nilFunc] 120)).alloc (.cells #[.func (.func 113) #[] #[], .func (.func 114) #[] #[], .func (.func 115) #[] #[], .func (.func 116) #[] #[], .func (.func 117) #[] #[]] 150)) := hW
  clear hW
  have B0 : Hid (Below w0.heap.size w0 w0) := Below.refl _ _
  refine rounds_step ?_
  intro K0 HK0
  have i0 := ix0 w0
  go_wp2_with fail
  refine (H1.out _).mono ?_
  rintro e v0 ⟨rfl, b0⟩
  clear i0
  have n0 := ne_nil (v0.alloc (.cells #[.int .i64 0, .int .i64 0, .nilFunc] 120))
  have B1 : Hid (Below w0.heap.size w0 (v0.alloc (.cells #[.int .i64 0, .int .i64 0, .nilFunc] 120))) := bstep B0.out b0 B0.out.size
  clear b0
  go_wp2_with fail
  refine HK0.out _ _ ?_
  clear HK0 K0 n0 B0
  obtain ⟨w1, h1⟩ : ∃ W, W = v0.alloc (.cells #[.int .i64 0, .int .i64 0, .nilFunc] 120) := ⟨_, rfl⟩
  rw [← h1] at B1 ⊢
  clear h1
  refine rounds_step ?_
  intro K1 HK1
  have i1 := ix1 w1
  go_wp2_with fail
  refine (H2.out _).mono ?_
  rintro e v1 ⟨rfl, b1⟩
  clear i1
  have n1 := ne_nil (v1.alloc (.cells #[.int .i64 0, .int .i64 0, .nilFunc] 120))
  have B2 : Hid (Below w0.heap.size w0 (v1.alloc (.cells #[.int .i64 0, .int .i64 0, .nilFunc] 120))) := bstep B1.out b1 B1.out.size
  clear b1
  go_wp2_with fail
  refine HK1.out _ _ ?_
  clear HK1 K1 n1 B1
  obtain ⟨w2, h2⟩ : ∃ W, W = v1.alloc (.cells #[.int .i64 0, .int .i64 0, .nilFunc] 120) := ⟨_, rfl⟩
  rw [← h2] at B2 ⊢
  clear h2
  refine rounds_step ?_
  intro K2 HK2
  have i2 := ix2 w2
  go_wp2_with fail
  refine (H3.out _).mono ?_
  rintro e v2 ⟨rfl, b2⟩
  clear i2
  have n2 := ne_nil (v2.alloc (.cells #[.int .i64 0, .int .i64 0, .nilFunc] 120))
  have B3 : Hid (Below w0.heap.size w0 (v2.alloc (.cells #[.int .i64 0, .int .i64 0, .nilFunc] 120))) := bstep B2.out b2 B2.out.size
  clear b2
  go_wp2_with fail
  refine HK2.out _ _ ?_
  clear HK2 K2 n2 B2
  obtain ⟨w3, h3⟩ : ∃ W, W = v2.alloc (.cells #[.int .i64 0, .int .i64 0, .nilFunc] 120) := ⟨_, rfl⟩
  rw [← h3] at B3 ⊢
  clear h3
  refine rounds_step ?_
  intro K HK
  have i3 := ix3 w3
  go_wp2_with fail
  refine (H4.out _).mono ?_
  rintro e v3 ⟨p, q, rfl, ht, b3⟩
  clear i3 HK
  have B4 : Below w0.heap.size w0 v3 := bnext B3.out b3 B3.out.size
  have hq1 : v3.heap[w.heap.size]? = some (.cells #[.int .i64 0, .int .i64 0, .nilFunc] 120 (0, 0)) := by
    rw [B4.block _ (by rw [HW.out]; simp; omega), HW.out]
    exact (((Below.refl (w.heap.size + 1) _).alloc (by simp) _).block w.heap.size (by omega)).trans (heap_alloc_new w _)
  have B5 : Hid (Below w.heap.size w v3) := bnext (show Below w.heap.size w w0 by rw [HW.out]; exact ((Below.refl _ _).alloc (Nat.le_refl _) _).alloc (by simp) _) B4 (by rw [HW.out]; simp; omega)
  have hlt : w.heap.size < v3.heap.size := fm.lt_blk hq1
  have HTk : Hid (Taking v3 ⟨#[116]⟩ 184 p q) := ht
  clear B4 b3 B3 HW ht
  obtain ⟨v4, h4⟩ : ∃ W, W = v3.alloc (.cells #[.int .i64 1, .int .i64 1, .func (.func 245) #[] #[.pointer (some ⟨p, 0, none⟩), .pointer (some ⟨q, 0, none⟩)]] 120) := ⟨_, rfl⟩
  have n3 := ne_fn p q v4
  rw [h4] at n3
  have hq4 : v4.heap[w.heap.size]? = some (.cells #[.int .i64 0, .int .i64 0, .nilFunc] 120 (0, 0)) := by
    rw [h4]; exact (((Below.refl v3.heap.size v3).alloc (Nat.le_refl _) _).block _ hlt).trans hq1
  have HQ1 : Hid (v4.heap[w.heap.size]? = some (.cells #[.int .i64 0, .int .i64 0, .nilFunc] 120 (0, 0))) := hq4
  have B6 : Hid (Below w.heap.size w v4) := by rw [h4]; exact B5.out.alloc (Nat.le_of_lt hlt) _
  have HT4 : Hid (Taking v4 ⟨#[116]⟩ 184 p q) := by rw [h4]; exact HTk.out.below ((Below.refl _ _).alloc (Nat.le_refl _) _)
  have c0 : v4.cell? ⟨w.heap.size, 0, none⟩ = some (.int .i64 0) := by simp [World.cell?, hq4]
  have c1 : v4.cell? ⟨w.heap.size, 1, none⟩ = some (.int .i64 0) := by simp [World.cell?, hq4]
  have c2 : v4.cell? ⟨w.heap.size, 2, none⟩ = some .nilFunc := by simp [World.cell?, hq4]
  have f0 : ∀ o, v4.frozen? ⟨w.heap.size, o, none⟩ = false := fun o => by simp [World.frozen?, hq4]
  have H44 : Hid (v3.alloc (.cells #[.int .i64 1, .int .i64 1, .func (.func 245) #[] #[.pointer (some ⟨p, 0, none⟩), .pointer (some ⟨q, 0, none⟩)]] 120) = v4) := h4.symm
  rw [h4] at c0 c1 c2 f0
  have NP : p ≠ w.heap.size := fun h => by have := HTk.out.letters; rw [h, hq1] at this; simp at this
  have NQ : q ≠ w.heap.size := fun h => by have := HTk.out.work; rw [h, hq1] at this; simp at this
  clear hq4 hq1 hlt h4
  go_wp2_with fail
  rw [H44.out] at *
  refine fin3e HQ1.out (Q := bodyPost _ _ _ _ _) ?_
  clear c0 c1 c2 f0
  intro w2 hq2 hk2 he2
  obtain ⟨d0, d1, d2⟩ := cells3v hq2
  exact bodyPost_ret (v := fnV 1 p q) (by simp [results, Tryz.results83, go_sem, d0, d1, d2]) rfl ⟨p, q, rfl, HT4.out.keep he2 NP NQ, B6.out.trans (hk2 _ (Nat.le_refl _))⟩
set_option maxRecDepth 8000 in
theorem functionOf_left (w : World) :
    Calls Tryz.prog 83 #[.string ⟨#[76, 69, 70, 84]⟩] w fun e w' => ∃ p q, e = .returned (fnV 2 p q) ∧ Taking w' ⟨#[116, 110]⟩ 185 p q ∧ Below w.heap.size w w' := by
  have H1 : Hid (∀ wx, Calls Tryz.prog 113 #[.string ⟨#[76, 69, 70, 84]⟩] wx fun e w' => e = .returned noF ∧ Below wx.heap.size wx w') := ofMany_left
  have H2 : Hid (∀ wx, Calls Tryz.prog 114 #[.string ⟨#[76, 69, 70, 84]⟩] wx fun e w' => e = .returned noF ∧ Below wx.heap.size wx w') := ofChoice_left
  have H3 : Hid (∀ wx, Calls Tryz.prog 115 #[.string ⟨#[76, 69, 70, 84]⟩] wx fun e w' => e = .returned noF ∧ Below wx.heap.size wx w') := ofNumbers_left
  have H4 : Hid (∀ wx, Calls Tryz.prog 116 #[.string ⟨#[76, 69, 70, 84]⟩] wx fun e w' => ∃ p q, e = .returned (fnV 2 p q) ∧ Taking w' ⟨#[116, 110]⟩ 185 p q ∧ Below wx.heap.size wx w') := ofTexts_left
  go_enter Tryz.func83, Tryz.ntmps83
  go_wp2_with fail
  refine wp_loop_rounds 4 ?_
  obtain ⟨w0, hW⟩ : ∃ W, W = (w.alloc (.cells #[.int .i64 0, .int .i64 0, .nilFunc] 120)).alloc (.cells #[.func (.func 113) #[] #[], .func (.func 114) #[] #[], .func (.func 115) #[] #[], .func (.func 116) #[] #[], .func (.func 117) #[] #[]] 150) := ⟨_, rfl⟩
  rw [← hW]
  have HW : Hid (w0 = (w.alloc (.cells #[.int .i64 0, .int .i64 0, .nilFunc] 120)).alloc (.cells #[.func (.func 113) #[] #[], .func (.func 114) #[] #[], .func (.func 115) #[] #[], .func (.func 116) #[] #[], .func (.func 117) #[] #[]] 150)) := hW
  clear hW
  have B0 : Hid (Below w0.heap.size w0 w0) := Below.refl _ _
  refine rounds_step ?_
  intro K0 HK0
  have i0 := ix0 w0
  go_wp2_with fail
  refine (H1.out _).mono ?_
  rintro e v0 ⟨rfl, b0⟩
  clear i0
  have n0 := ne_nil (v0.alloc (.cells #[.int .i64 0, .int .i64 0, .nilFunc] 120))
  have B1 : Hid (Below w0.heap.size w0 (v0.alloc (.cells #[.int .i64 0, .int .i64 0, .nilFunc] 120))) := bstep B0.out b0 B0.out.size
  clear b0
  go_wp2_with fail
  refine HK0.out _ _ ?_
  clear HK0 K0 n0 B0
  obtain ⟨w1, h1⟩ : ∃ W, W = v0.alloc (.cells #[.int .i64 0, .int .i64 0, .nilFunc] 120) := ⟨_, rfl⟩
  rw [← h1] at B1 ⊢
  clear h1
  refine rounds_step ?_
  intro K1 HK1
  have i1 := ix1 w1
  go_wp2_with fail
  refine (H2.out _).mono ?_
  rintro e v1 ⟨rfl, b1⟩
  clear i1
  have n1 := ne_nil (v1.alloc (.cells #[.int .i64 0, .int .i64 0, .nilFunc] 120))
  have B2 : Hid (Below w0.heap.size w0 (v1.alloc (.cells #[.int .i64 0, .int .i64 0, .nilFunc] 120))) := bstep B1.out b1 B1.out.size
  clear b1
  go_wp2_with fail
  refine HK1.out _ _ ?_
  clear HK1 K1 n1 B1
  obtain ⟨w2, h2⟩ : ∃ W, W = v1.alloc (.cells #[.int .i64 0, .int .i64 0, .nilFunc] 120) := ⟨_, rfl⟩
  rw [← h2] at B2 ⊢
  clear h2
  refine rounds_step ?_
  intro K2 HK2
  have i2 := ix2 w2
  go_wp2_with fail
  refine (H3.out _).mono ?_
  rintro e v2 ⟨rfl, b2⟩
  clear i2
  have n2 := ne_nil (v2.alloc (.cells #[.int .i64 0, .int .i64 0, .nilFunc] 120))
  have B3 : Hid (Below w0.heap.size w0 (v2.alloc (.cells #[.int .i64 0, .int .i64 0, .nilFunc] 120))) := bstep B2.out b2 B2.out.size
  clear b2
  go_wp2_with fail
  refine HK2.out _ _ ?_
  clear HK2 K2 n2 B2
  obtain ⟨w3, h3⟩ : ∃ W, W = v2.alloc (.cells #[.int .i64 0, .int .i64 0, .nilFunc] 120) := ⟨_, rfl⟩
  rw [← h3] at B3 ⊢
  clear h3
  refine rounds_step ?_
  intro K HK
  have i3 := ix3 w3
  go_wp2_with fail
  refine (H4.out _).mono ?_
  rintro e v3 ⟨p, q, rfl, ht, b3⟩
  clear i3 HK
  have B4 : Below w0.heap.size w0 v3 := bnext B3.out b3 B3.out.size
  have hq1 : v3.heap[w.heap.size]? = some (.cells #[.int .i64 0, .int .i64 0, .nilFunc] 120 (0, 0)) := by
    rw [B4.block _ (by rw [HW.out]; simp; omega), HW.out]
    exact (((Below.refl (w.heap.size + 1) _).alloc (by simp) _).block w.heap.size (by omega)).trans (heap_alloc_new w _)
  have B5 : Hid (Below w.heap.size w v3) := bnext (show Below w.heap.size w w0 by rw [HW.out]; exact ((Below.refl _ _).alloc (Nat.le_refl _) _).alloc (by simp) _) B4 (by rw [HW.out]; simp; omega)
  have hlt : w.heap.size < v3.heap.size := fm.lt_blk hq1
  have HTk : Hid (Taking v3 ⟨#[116, 110]⟩ 185 p q) := ht
  clear B4 b3 B3 HW ht
  obtain ⟨v4, h4⟩ : ∃ W, W = v3.alloc (.cells #[.int .i64 2, .int .i64 2, .func (.func 245) #[] #[.pointer (some ⟨p, 0, none⟩), .pointer (some ⟨q, 0, none⟩)]] 120) := ⟨_, rfl⟩
  have n3 := ne_fn p q v4
  rw [h4] at n3
  have hq4 : v4.heap[w.heap.size]? = some (.cells #[.int .i64 0, .int .i64 0, .nilFunc] 120 (0, 0)) := by
    rw [h4]; exact (((Below.refl v3.heap.size v3).alloc (Nat.le_refl _) _).block _ hlt).trans hq1
  have HQ1 : Hid (v4.heap[w.heap.size]? = some (.cells #[.int .i64 0, .int .i64 0, .nilFunc] 120 (0, 0))) := hq4
  have B6 : Hid (Below w.heap.size w v4) := by rw [h4]; exact B5.out.alloc (Nat.le_of_lt hlt) _
  have HT4 : Hid (Taking v4 ⟨#[116, 110]⟩ 185 p q) := by rw [h4]; exact HTk.out.below ((Below.refl _ _).alloc (Nat.le_refl _) _)
  have c0 : v4.cell? ⟨w.heap.size, 0, none⟩ = some (.int .i64 0) := by simp [World.cell?, hq4]
  have c1 : v4.cell? ⟨w.heap.size, 1, none⟩ = some (.int .i64 0) := by simp [World.cell?, hq4]
  have c2 : v4.cell? ⟨w.heap.size, 2, none⟩ = some .nilFunc := by simp [World.cell?, hq4]
  have f0 : ∀ o, v4.frozen? ⟨w.heap.size, o, none⟩ = false := fun o => by simp [World.frozen?, hq4]
  have H44 : Hid (v3.alloc (.cells #[.int .i64 2, .int .i64 2, .func (.func 245) #[] #[.pointer (some ⟨p, 0, none⟩), .pointer (some ⟨q, 0, none⟩)]] 120) = v4) := h4.symm
  rw [h4] at c0 c1 c2 f0
  have NP : p ≠ w.heap.size := fun h => by have := HTk.out.letters; rw [h, hq1] at this; simp at this
  have NQ : q ≠ w.heap.size := fun h => by have := HTk.out.work; rw [h, hq1] at this; simp at this
  clear hq4 hq1 hlt h4
  go_wp2_with fail
  rw [H44.out] at *
  refine fin3e HQ1.out (Q := bodyPost _ _ _ _ _) ?_
  clear c0 c1 c2 f0
  intro w2 hq2 hk2 he2
  obtain ⟨d0, d1, d2⟩ := cells3v hq2
  exact bodyPost_ret (v := fnV 2 p q) (by simp [results, Tryz.results83, go_sem, d0, d1, d2]) rfl ⟨p, q, rfl, HT4.out.keep he2 NP NQ, B6.out.trans (hk2 _ (Nat.le_refl _))⟩
set_option maxRecDepth 8000 in
theorem functionOf_right (w : World) :
    Calls Tryz.prog 83 #[.string ⟨#[82, 73, 71, 72, 84]⟩] w fun e w' => ∃ p q, e = .returned (fnV 2 p q) ∧ Taking w' ⟨#[116, 110]⟩ 187 p q ∧ Below w.heap.size w w' := by
  have H1 : Hid (∀ wx, Calls Tryz.prog 113 #[.string ⟨#[82, 73, 71, 72, 84]⟩] wx fun e w' => e = .returned noF ∧ Below wx.heap.size wx w') := ofMany_right
  have H2 : Hid (∀ wx, Calls Tryz.prog 114 #[.string ⟨#[82, 73, 71, 72, 84]⟩] wx fun e w' => e = .returned noF ∧ Below wx.heap.size wx w') := ofChoice_right
  have H3 : Hid (∀ wx, Calls Tryz.prog 115 #[.string ⟨#[82, 73, 71, 72, 84]⟩] wx fun e w' => e = .returned noF ∧ Below wx.heap.size wx w') := ofNumbers_right
  have H4 : Hid (∀ wx, Calls Tryz.prog 116 #[.string ⟨#[82, 73, 71, 72, 84]⟩] wx fun e w' => ∃ p q, e = .returned (fnV 2 p q) ∧ Taking w' ⟨#[116, 110]⟩ 187 p q ∧ Below wx.heap.size wx w') := ofTexts_right
  go_enter Tryz.func83, Tryz.ntmps83
  go_wp2_with fail
  refine wp_loop_rounds 4 ?_
  obtain ⟨w0, hW⟩ : ∃ W, W = (w.alloc (.cells #[.int .i64 0, .int .i64 0, .nilFunc] 120)).alloc (.cells #[.func (.func 113) #[] #[], .func (.func 114) #[] #[], .func (.func 115) #[] #[], .func (.func 116) #[] #[], .func (.func 117) #[] #[]] 150) := ⟨_, rfl⟩
  rw [← hW]
  have HW : Hid (w0 = (w.alloc (.cells #[.int .i64 0, .int .i64 0, .nilFunc] 120)).alloc (.cells #[.func (.func 113) #[] #[], .func (.func 114) #[] #[], .func (.func 115) #[] #[], .func (.func 116) #[] #[], .func (.func 117) #[] #[]] 150)) := hW
  clear hW
  have B0 : Hid (Below w0.heap.size w0 w0) := Below.refl _ _
  refine rounds_step ?_
  intro K0 HK0
  have i0 := ix0 w0
  go_wp2_with fail
  refine (H1.out _).mono ?_
  rintro e v0 ⟨rfl, b0⟩
  clear i0
  have n0 := ne_nil (v0.alloc (.cells #[.int .i64 0, .int .i64 0, .nilFunc] 120))
  have B1 : Hid (Below w0.heap.size w0 (v0.alloc (.cells #[.int .i64 0, .int .i64 0, .nilFunc] 120))) := bstep B0.out b0 B0.out.size
  clear b0
  go_wp2_with fail
  refine HK0.out _ _ ?_
  clear HK0 K0 n0 B0
  obtain ⟨w1, h1⟩ : ∃ W, W = v0.alloc (.cells #[.int .i64 0, .int .i64 0, .nilFunc] 120) := ⟨_, rfl⟩
  rw [← h1] at B1 ⊢
  clear h1
  refine rounds_step ?_
  intro K1 HK1
  have i1 := ix1 w1
  go_wp2_with fail
  refine (H2.out _).mono ?_
  rintro e v1 ⟨rfl, b1⟩
  clear i1
  have n1 := ne_nil (v1.alloc (.cells #[.int .i64 0, .int .i64 0, .nilFunc] 120))
  have B2 : Hid (Below w0.heap.size w0 (v1.alloc (.cells #[.int .i64 0, .int .i64 0, .nilFunc] 120))) := bstep B1.out b1 B1.out.size
  clear b1
  go_wp2_with fail
  refine HK1.out _ _ ?_
  clear HK1 K1 n1 B1
  obtain ⟨w2, h2⟩ : ∃ W, W = v1.alloc (.cells #[.int .i64 0, .int .i64 0, .nilFunc] 120) := ⟨_, rfl⟩
  rw [← h2] at B2 ⊢
  clear h2
  refine rounds_step ?_
  intro K2 HK2
  have i2 := ix2 w2
  go_wp2_with fail
  refine (H3.out _).mono ?_
  rintro e v2 ⟨rfl, b2⟩
  clear i2
  have n2 := ne_nil (v2.alloc (.cells #[.int .i64 0, .int .i64 0, .nilFunc] 120))
  have B3 : Hid (Below w0.heap.size w0 (v2.alloc (.cells #[.int .i64 0, .int .i64 0, .nilFunc] 120))) := bstep B2.out b2 B2.out.size
  clear b2
  go_wp2_with fail
  refine HK2.out _ _ ?_
  clear HK2 K2 n2 B2
  obtain ⟨w3, h3⟩ : ∃ W, W = v2.alloc (.cells #[.int .i64 0, .int .i64 0, .nilFunc] 120) := ⟨_, rfl⟩
  rw [← h3] at B3 ⊢
  clear h3
  refine rounds_step ?_
  intro K HK
  have i3 := ix3 w3
  go_wp2_with fail
  refine (H4.out _).mono ?_
  rintro e v3 ⟨p, q, rfl, ht, b3⟩
  clear i3 HK
  have B4 : Below w0.heap.size w0 v3 := bnext B3.out b3 B3.out.size
  have hq1 : v3.heap[w.heap.size]? = some (.cells #[.int .i64 0, .int .i64 0, .nilFunc] 120 (0, 0)) := by
    rw [B4.block _ (by rw [HW.out]; simp; omega), HW.out]
    exact (((Below.refl (w.heap.size + 1) _).alloc (by simp) _).block w.heap.size (by omega)).trans (heap_alloc_new w _)
  have B5 : Hid (Below w.heap.size w v3) := bnext (show Below w.heap.size w w0 by rw [HW.out]; exact ((Below.refl _ _).alloc (Nat.le_refl _) _).alloc (by simp) _) B4 (by rw [HW.out]; simp; omega)
  have hlt : w.heap.size < v3.heap.size := fm.lt_blk hq1
  have HTk : Hid (Taking v3 ⟨#[116, 110]⟩ 187 p q) := ht
  clear B4 b3 B3 HW ht
  obtain ⟨v4, h4⟩ : ∃ W, W = v3.alloc (.cells #[.int .i64 2, .int .i64 2, .func (.func 245) #[] #[.pointer (some ⟨p, 0, none⟩), .pointer (some ⟨q, 0, none⟩)]] 120) := ⟨_, rfl⟩
  have n3 := ne_fn p q v4
  rw [h4] at n3
  have hq4 : v4.heap[w.heap.size]? = some (.cells #[.int .i64 0, .int .i64 0, .nilFunc] 120 (0, 0)) := by
    rw [h4]; exact (((Below.refl v3.heap.size v3).alloc (Nat.le_refl _) _).block _ hlt).trans hq1
  have HQ1 : Hid (v4.heap[w.heap.size]? = some (.cells #[.int .i64 0, .int .i64 0, .nilFunc] 120 (0, 0))) := hq4
  have B6 : Hid (Below w.heap.size w v4) := by rw [h4]; exact B5.out.alloc (Nat.le_of_lt hlt) _
  have HT4 : Hid (Taking v4 ⟨#[116, 110]⟩ 187 p q) := by rw [h4]; exact HTk.out.below ((Below.refl _ _).alloc (Nat.le_refl _) _)
  have c0 : v4.cell? ⟨w.heap.size, 0, none⟩ = some (.int .i64 0) := by simp [World.cell?, hq4]
  have c1 : v4.cell? ⟨w.heap.size, 1, none⟩ = some (.int .i64 0) := by simp [World.cell?, hq4]
  have c2 : v4.cell? ⟨w.heap.size, 2, none⟩ = some .nilFunc := by simp [World.cell?, hq4]
  have f0 : ∀ o, v4.frozen? ⟨w.heap.size, o, none⟩ = false := fun o => by simp [World.frozen?, hq4]
  have H44 : Hid (v3.alloc (.cells #[.int .i64 2, .int .i64 2, .func (.func 245) #[] #[.pointer (some ⟨p, 0, none⟩), .pointer (some ⟨q, 0, none⟩)]] 120) = v4) := h4.symm
  rw [h4] at c0 c1 c2 f0
  have NP : p ≠ w.heap.size := fun h => by have := HTk.out.letters; rw [h, hq1] at this; simp at this
  have NQ : q ≠ w.heap.size := fun h => by have := HTk.out.work; rw [h, hq1] at this; simp at this
  clear hq4 hq1 hlt h4
  go_wp2_with fail
  rw [H44.out] at *
  refine fin3e HQ1.out (Q := bodyPost _ _ _ _ _) ?_
  clear c0 c1 c2 f0
  intro w2 hq2 hk2 he2
  obtain ⟨d0, d1, d2⟩ := cells3v hq2
  exact bodyPost_ret (v := fnV 2 p q) (by simp [results, Tryz.results83, go_sem, d0, d1, d2]) rfl ⟨p, q, rfl, HT4.out.keep he2 NP NQ, B6.out.trans (hk2 _ (Nat.le_refl _))⟩
set_option maxRecDepth 8000 in
theorem functionOf_mid (w : World) :
    Calls Tryz.prog 83 #[.string ⟨#[77, 73, 68]⟩] w fun e w' => ∃ p q, e = .returned (fnV 3 p q) ∧ Taking w' ⟨#[116, 110, 110]⟩ 189 p q ∧ Below w.heap.size w w' := by
  have H1 : Hid (∀ wx, Calls Tryz.prog 113 #[.string ⟨#[77, 73, 68]⟩] wx fun e w' => e = .returned noF ∧ Below wx.heap.size wx w') := ofMany_mid
  have H2 : Hid (∀ wx, Calls Tryz.prog 114 #[.string ⟨#[77, 73, 68]⟩] wx fun e w' => e = .returned noF ∧ Below wx.heap.size wx w') := ofChoice_mid
  have H3 : Hid (∀ wx, Calls Tryz.prog 115 #[.string ⟨#[77, 73, 68]⟩] wx fun e w' => e = .returned noF ∧ Below wx.heap.size wx w') := ofNumbers_mid
  have H4 : Hid (∀ wx, Calls Tryz.prog 116 #[.string ⟨#[77, 73, 68]⟩] wx fun e w' => ∃ p q, e = .returned (fnV 3 p q) ∧ Taking w' ⟨#[116, 110, 110]⟩ 189 p q ∧ Below wx.heap.size wx w') := ofTexts_mid
  go_enter Tryz.func83, Tryz.ntmps83
  go_wp2_with fail
  refine wp_loop_rounds 4 ?_
  obtain ⟨w0, hW⟩ : ∃ W, W = (w.alloc (.cells #[.int .i64 0, .int .i64 0, .nilFunc] 120)).alloc (.cells #[.func (.func 113) #[] #[], .func (.func 114) #[] #[], .func (.func 115) #[] #[], .func (.func 116) #[] #[], .func (.func 117) #[] #[]] 150) := ⟨_, rfl⟩
  rw [← hW]
  have HW : Hid (w0 = (w.alloc (.cells #[.int .i64 0, .int .i64 0, .nilFunc] 120)).alloc (.cells #[.func (.func 113) #[] #[], .func (.func 114) #[] #[], .func (.func 115) #[] #[], .func (.func 116) #[] #[], .func (.func 117) #[] #[]] 150)) := hW
  clear hW
  have B0 : Hid (Below w0.heap.size w0 w0) := Below.refl _ _
  refine rounds_step ?_
  intro K0 HK0
  have i0 := ix0 w0
  go_wp2_with fail
  refine (H1.out _).mono ?_
  rintro e v0 ⟨rfl, b0⟩
  clear i0
  have n0 := ne_nil (v0.alloc (.cells #[.int .i64 0, .int .i64 0, .nilFunc] 120))
  have B1 : Hid (Below w0.heap.size w0 (v0.alloc (.cells #[.int .i64 0, .int .i64 0, .nilFunc] 120))) := bstep B0.out b0 B0.out.size
  clear b0
  go_wp2_with fail
  refine HK0.out _ _ ?_
  clear HK0 K0 n0 B0
  obtain ⟨w1, h1⟩ : ∃ W, W = v0.alloc (.cells #[.int .i64 0, .int .i64 0, .nilFunc] 120) := ⟨_, rfl⟩
  rw [← h1] at B1 ⊢
  clear h1
  refine rounds_step ?_
  intro K1 HK1
  have i1 := ix1 w1
  go_wp2_with fail
  refine (H2.out _).mono ?_
  rintro e v1 ⟨rfl, b1⟩
  clear i1
  have n1 := ne_nil (v1.alloc (.cells #[.int .i64 0, .int .i64 0, .nilFunc] 120))
  have B2 : Hid (Below w0.heap.size w0 (v1.alloc (.cells #[.int .i64 0, .int .i64 0, .nilFunc] 120))) := bstep B1.out b1 B1.out.size
  clear b1
  go_wp2_with fail
  refine HK1.out _ _ ?_
  clear HK1 K1 n1 B1
  obtain ⟨w2, h2⟩ : ∃ W, W = v1.alloc (.cells #[.int .i64 0, .int .i64 0, .nilFunc] 120) := ⟨_, rfl⟩
  rw [← h2] at B2 ⊢
  clear h2
  refine rounds_step ?_
  intro K2 HK2
  have i2 := ix2 w2
  go_wp2_with fail
  refine (H3.out _).mono ?_
  rintro e v2 ⟨rfl, b2⟩
  clear i2
  have n2 := ne_nil (v2.alloc (.cells #[.int .i64 0, .int .i64 0, .nilFunc] 120))
  have B3 : Hid (Below w0.heap.size w0 (v2.alloc (.cells #[.int .i64 0, .int .i64 0, .nilFunc] 120))) := bstep B2.out b2 B2.out.size
  clear b2
  go_wp2_with fail
  refine HK2.out _ _ ?_
  clear HK2 K2 n2 B2
  obtain ⟨w3, h3⟩ : ∃ W, W = v2.alloc (.cells #[.int .i64 0, .int .i64 0, .nilFunc] 120) := ⟨_, rfl⟩
  rw [← h3] at B3 ⊢
  clear h3
  refine rounds_step ?_
  intro K HK
  have i3 := ix3 w3
  go_wp2_with fail
  refine (H4.out _).mono ?_
  rintro e v3 ⟨p, q, rfl, ht, b3⟩
  clear i3 HK
  have B4 : Below w0.heap.size w0 v3 := bnext B3.out b3 B3.out.size
  have hq1 : v3.heap[w.heap.size]? = some (.cells #[.int .i64 0, .int .i64 0, .nilFunc] 120 (0, 0)) := by
    rw [B4.block _ (by rw [HW.out]; simp; omega), HW.out]
    exact (((Below.refl (w.heap.size + 1) _).alloc (by simp) _).block w.heap.size (by omega)).trans (heap_alloc_new w _)
  have B5 : Hid (Below w.heap.size w v3) := bnext (show Below w.heap.size w w0 by rw [HW.out]; exact ((Below.refl _ _).alloc (Nat.le_refl _) _).alloc (by simp) _) B4 (by rw [HW.out]; simp; omega)
  have hlt : w.heap.size < v3.heap.size := fm.lt_blk hq1
  have HTk : Hid (Taking v3 ⟨#[116, 110, 110]⟩ 189 p q) := ht
  clear B4 b3 B3 HW ht
  obtain ⟨v4, h4⟩ : ∃ W, W = v3.alloc (.cells #[.int .i64 3, .int .i64 3, .func (.func 245) #[] #[.pointer (some ⟨p, 0, none⟩), .pointer (some ⟨q, 0, none⟩)]] 120) := ⟨_, rfl⟩
  have n3 := ne_fn p q v4
  rw [h4] at n3
  have hq4 : v4.heap[w.heap.size]? = some (.cells #[.int .i64 0, .int .i64 0, .nilFunc] 120 (0, 0)) := by
    rw [h4]; exact (((Below.refl v3.heap.size v3).alloc (Nat.le_refl _) _).block _ hlt).trans hq1
  have HQ1 : Hid (v4.heap[w.heap.size]? = some (.cells #[.int .i64 0, .int .i64 0, .nilFunc] 120 (0, 0))) := hq4
  have B6 : Hid (Below w.heap.size w v4) := by rw [h4]; exact B5.out.alloc (Nat.le_of_lt hlt) _
  have HT4 : Hid (Taking v4 ⟨#[116, 110, 110]⟩ 189 p q) := by rw [h4]; exact HTk.out.below ((Below.refl _ _).alloc (Nat.le_refl _) _)
  have c0 : v4.cell? ⟨w.heap.size, 0, none⟩ = some (.int .i64 0) := by simp [World.cell?, hq4]
  have c1 : v4.cell? ⟨w.heap.size, 1, none⟩ = some (.int .i64 0) := by simp [World.cell?, hq4]
  have c2 : v4.cell? ⟨w.heap.size, 2, none⟩ = some .nilFunc := by simp [World.cell?, hq4]
  have f0 : ∀ o, v4.frozen? ⟨w.heap.size, o, none⟩ = false := fun o => by simp [World.frozen?, hq4]
  have H44 : Hid (v3.alloc (.cells #[.int .i64 3, .int .i64 3, .func (.func 245) #[] #[.pointer (some ⟨p, 0, none⟩), .pointer (some ⟨q, 0, none⟩)]] 120) = v4) := h4.symm
  rw [h4] at c0 c1 c2 f0
  have NP : p ≠ w.heap.size := fun h => by have := HTk.out.letters; rw [h, hq1] at this; simp at this
  have NQ : q ≠ w.heap.size := fun h => by have := HTk.out.work; rw [h, hq1] at this; simp at this
  clear hq4 hq1 hlt h4
  go_wp2_with fail
  rw [H44.out] at *
  refine fin3e HQ1.out (Q := bodyPost _ _ _ _ _) ?_
  clear c0 c1 c2 f0
  intro w2 hq2 hk2 he2
  obtain ⟨d0, d1, d2⟩ := cells3v hq2
  exact bodyPost_ret (v := fnV 3 p q) (by simp [results, Tryz.results83, go_sem, d0, d1, d2]) rfl ⟨p, q, rfl, HT4.out.keep he2 NP NQ, B6.out.trans (hk2 _ (Nat.le_refl _))⟩
set_option maxRecDepth 8000 in
theorem functionOf_find (w : World) :
    Calls Tryz.prog 83 #[.string ⟨#[70, 73, 78, 68]⟩] w fun e w' => ∃ p q, e = .returned (fnV 2 p q) ∧ Taking w' ⟨#[116, 116]⟩ 193 p q ∧ Below w.heap.size w w' := by
  have H1 : Hid (∀ wx, Calls Tryz.prog 113 #[.string ⟨#[70, 73, 78, 68]⟩] wx fun e w' => e = .returned noF ∧ Below wx.heap.size wx w') := ofMany_find
  have H2 : Hid (∀ wx, Calls Tryz.prog 114 #[.string ⟨#[70, 73, 78, 68]⟩] wx fun e w' => e = .returned noF ∧ Below wx.heap.size wx w') := ofChoice_find
  have H3 : Hid (∀ wx, Calls Tryz.prog 115 #[.string ⟨#[70, 73, 78, 68]⟩] wx fun e w' => e = .returned noF ∧ Below wx.heap.size wx w') := ofNumbers_find
  have H4 : Hid (∀ wx, Calls Tryz.prog 116 #[.string ⟨#[70, 73, 78, 68]⟩] wx fun e w' => ∃ p q, e = .returned (fnV 2 p q) ∧ Taking w' ⟨#[116, 116]⟩ 193 p q ∧ Below wx.heap.size wx w') := ofTexts_find
  go_enter Tryz.func83, Tryz.ntmps83
  go_wp2_with fail
  refine wp_loop_rounds 4 ?_
  obtain ⟨w0, hW⟩ : ∃ W, W = (w.alloc (.cells #[.int .i64 0, .int .i64 0, .nilFunc] 120)).alloc (.cells #[.func (.func 113) #[] #[], .func (.func 114) #[] #[], .func (.func 115) #[] #[], .func (.func 116) #[] #[], .func (.func 117) #[] #[]] 150) := ⟨_, rfl⟩
  rw [← hW]
  have HW : Hid (w0 = (w.alloc (.cells #[.int .i64 0, .int .i64 0, .nilFunc] 120)).alloc (.cells #[.func (.func 113) #[] #[], .func (.func 114) #[] #[], .func (.func 115) #[] #[], .func (.func 116) #[] #[], .func (.func 117) #[] #[]] 150)) := hW
  clear hW
  have B0 : Hid (Below w0.heap.size w0 w0) := Below.refl _ _
  refine rounds_step ?_
  intro K0 HK0
  have i0 := ix0 w0
  go_wp2_with fail
  refine (H1.out _).mono ?_
  rintro e v0 ⟨rfl, b0⟩
  clear i0
  have n0 := ne_nil (v0.alloc (.cells #[.int .i64 0, .int .i64 0, .nilFunc] 120))
  have B1 : Hid (Below w0.heap.size w0 (v0.alloc (.cells #[.int .i64 0, .int .i64 0, .nilFunc] 120))) := bstep B0.out b0 B0.out.size
  clear b0
  go_wp2_with fail
  refine HK0.out _ _ ?_
  clear HK0 K0 n0 B0
  obtain ⟨w1, h1⟩ : ∃ W, W = v0.alloc (.cells #[.int .i64 0, .int .i64 0, .nilFunc] 120) := ⟨_, rfl⟩
  rw [← h1] at B1 ⊢
  clear h1
  refine rounds_step ?_
  intro K1 HK1
  have i1 := ix1 w1
  go_wp2_with fail
  refine (H2.out _).mono ?_
  rintro e v1 ⟨rfl, b1⟩
  clear i1
  have n1 := ne_nil (v1.alloc (.cells #[.int .i64 0, .int .i64 0, .nilFunc] 120))
  have B2 : Hid (Below w0.heap.size w0 (v1.alloc (.cells #[.int .i64 0, .int .i64 0, .nilFunc] 120))) := bstep B1.out b1 B1.out.size
  clear b1
  go_wp2_with fail
  refine HK1.out _ _ ?_
  clear HK1 K1 n1 B1
  obtain ⟨w2, h2⟩ : ∃ W, W = v1.alloc (.cells #[.int .i64 0, .int .i64 0, .nilFunc] 120) := ⟨_, rfl⟩
  rw [← h2] at B2 ⊢
  clear h2
  refine rounds_step ?_
  intro K2 HK2
  have i2 := ix2 w2
  go_wp2_with fail
  refine (H3.out _).mono ?_
  rintro e v2 ⟨rfl, b2⟩
  clear i2
  have n2 := ne_nil (v2.alloc (.cells #[.int .i64 0, .int .i64 0, .nilFunc] 120))
  have B3 : Hid (Below w0.heap.size w0 (v2.alloc (.cells #[.int .i64 0, .int .i64 0, .nilFunc] 120))) := bstep B2.out b2 B2.out.size
  clear b2
  go_wp2_with fail
  refine HK2.out _ _ ?_
  clear HK2 K2 n2 B2
  obtain ⟨w3, h3⟩ : ∃ W, W = v2.alloc (.cells #[.int .i64 0, .int .i64 0, .nilFunc] 120) := ⟨_, rfl⟩
  rw [← h3] at B3 ⊢
  clear h3
  refine rounds_step ?_
  intro K HK
  have i3 := ix3 w3
  go_wp2_with fail
  refine (H4.out _).mono ?_
  rintro e v3 ⟨p, q, rfl, ht, b3⟩
  clear i3 HK
  have B4 : Below w0.heap.size w0 v3 := bnext B3.out b3 B3.out.size
  have hq1 : v3.heap[w.heap.size]? = some (.cells #[.int .i64 0, .int .i64 0, .nilFunc] 120 (0, 0)) := by
    rw [B4.block _ (by rw [HW.out]; simp; omega), HW.out]
    exact (((Below.refl (w.heap.size + 1) _).alloc (by simp) _).block w.heap.size (by omega)).trans (heap_alloc_new w _)
  have B5 : Hid (Below w.heap.size w v3) := bnext (show Below w.heap.size w w0 by rw [HW.out]; exact ((Below.refl _ _).alloc (Nat.le_refl _) _).alloc (by simp) _) B4 (by rw [HW.out]; simp; omega)
  have hlt : w.heap.size < v3.heap.size := fm.lt_blk hq1
  have HTk : Hid (Taking v3 ⟨#[116, 116]⟩ 193 p q) := ht
  clear B4 b3 B3 HW ht
  obtain ⟨v4, h4⟩ : ∃ W, W = v3.alloc (.cells #[.int .i64 2, .int .i64 2, .func (.func 245) #[] #[.pointer (some ⟨p, 0, none⟩), .pointer (some ⟨q, 0, none⟩)]] 120) := ⟨_, rfl⟩
  have n3 := ne_fn p q v4
  rw [h4] at n3
  have hq4 : v4.heap[w.heap.size]? = some (.cells #[.int .i64 0, .int .i64 0, .nilFunc] 120 (0, 0)) := by
    rw [h4]; exact (((Below.refl v3.heap.size v3).alloc (Nat.le_refl _) _).block _ hlt).trans hq1
  have HQ1 : Hid (v4.heap[w.heap.size]? = some (.cells #[.int .i64 0, .int .i64 0, .nilFunc] 120 (0, 0))) := hq4
  have B6 : Hid (Below w.heap.size w v4) := by rw [h4]; exact B5.out.alloc (Nat.le_of_lt hlt) _
  have HT4 : Hid (Taking v4 ⟨#[116, 116]⟩ 193 p q) := by rw [h4]; exact HTk.out.below ((Below.refl _ _).alloc (Nat.le_refl _) _)
  have c0 : v4.cell? ⟨w.heap.size, 0, none⟩ = some (.int .i64 0) := by simp [World.cell?, hq4]
  have c1 : v4.cell? ⟨w.heap.size, 1, none⟩ = some (.int .i64 0) := by simp [World.cell?, hq4]
  have c2 : v4.cell? ⟨w.heap.size, 2, none⟩ = some .nilFunc := by simp [World.cell?, hq4]
  have f0 : ∀ o, v4.frozen? ⟨w.heap.size, o, none⟩ = false := fun o => by simp [World.frozen?, hq4]
  have H44 : Hid (v3.alloc (.cells #[.int .i64 2, .int .i64 2, .func (.func 245) #[] #[.pointer (some ⟨p, 0, none⟩), .pointer (some ⟨q, 0, none⟩)]] 120) = v4) := h4.symm
  rw [h4] at c0 c1 c2 f0
  have NP : p ≠ w.heap.size := fun h => by have := HTk.out.letters; rw [h, hq1] at this; simp at this
  have NQ : q ≠ w.heap.size := fun h => by have := HTk.out.work; rw [h, hq1] at this; simp at this
  clear hq4 hq1 hlt h4
  go_wp2_with fail
  rw [H44.out] at *
  refine fin3e HQ1.out (Q := bodyPost _ _ _ _ _) ?_
  clear c0 c1 c2 f0
  intro w2 hq2 hk2 he2
  obtain ⟨d0, d1, d2⟩ := cells3v hq2
  exact bodyPost_ret (v := fnV 2 p q) (by simp [results, Tryz.results83, go_sem, d0, d1, d2]) rfl ⟨p, q, rfl, HT4.out.keep he2 NP NQ, B6.out.trans (hk2 _ (Nat.le_refl _))⟩
set_option maxRecDepth 8000 in
theorem functionOf_exact (w : World) :
    Calls Tryz.prog 83 #[.string ⟨#[69, 88, 65, 67, 84]⟩] w fun e w' => ∃ p q, e = .returned (fnV 2 p q) ∧ Taking w' ⟨#[116, 116]⟩ 197 p q ∧ Below w.heap.size w w' := by
  have H1 : Hid (∀ wx, Calls Tryz.prog 113 #[.string ⟨#[69, 88, 65, 67, 84]⟩] wx fun e w' => e = .returned noF ∧ Below wx.heap.size wx w') := ofMany_exact
  have H2 : Hid (∀ wx, Calls Tryz.prog 114 #[.string ⟨#[69, 88, 65, 67, 84]⟩] wx fun e w' => e = .returned noF ∧ Below wx.heap.size wx w') := ofChoice_exact
  have H3 : Hid (∀ wx, Calls Tryz.prog 115 #[.string ⟨#[69, 88, 65, 67, 84]⟩] wx fun e w' => e = .returned noF ∧ Below wx.heap.size wx w') := ofNumbers_exact
  have H4 : Hid (∀ wx, Calls Tryz.prog 116 #[.string ⟨#[69, 88, 65, 67, 84]⟩] wx fun e w' => ∃ p q, e = .returned (fnV 2 p q) ∧ Taking w' ⟨#[116, 116]⟩ 197 p q ∧ Below wx.heap.size wx w') := ofTexts_exact
  go_enter Tryz.func83, Tryz.ntmps83
  go_wp2_with fail
  refine wp_loop_rounds 4 ?_
  obtain ⟨w0, hW⟩ : ∃ W, W = (w.alloc (.cells #[.int .i64 0, .int .i64 0, .nilFunc] 120)).alloc (.cells #[.func (.func 113) #[] #[], .func (.func 114) #[] #[], .func (.func 115) #[] #[], .func (.func 116) #[] #[], .func (.func 117) #[] #[]] 150) := ⟨_, rfl⟩
  rw [← hW]
  have HW : Hid (w0 = (w.alloc (.cells #[.int .i64 0, .int .i64 0, .nilFunc] 120)).alloc (.cells #[.func (.func 113) #[] #[], .func (.func 114) #[] #[], .func (.func 115) #[] #[], .func (.func 116) #[] #[], .func (.func 117) #[] #[]] 150)) := hW
  clear hW
  have B0 : Hid (Below w0.heap.size w0 w0) := Below.refl _ _
  refine rounds_step ?_
  intro K0 HK0
  have i0 := ix0 w0
  go_wp2_with fail
  refine (H1.out _).mono ?_
  rintro e v0 ⟨rfl, b0⟩
  clear i0
  have n0 := ne_nil (v0.alloc (.cells #[.int .i64 0, .int .i64 0, .nilFunc] 120))
  have B1 : Hid (Below w0.heap.size w0 (v0.alloc (.cells #[.int .i64 0, .int .i64 0, .nilFunc] 120))) := bstep B0.out b0 B0.out.size
  clear b0
  go_wp2_with fail
  refine HK0.out _ _ ?_
  clear HK0 K0 n0 B0
  obtain ⟨w1, h1⟩ : ∃ W, W = v0.alloc (.cells #[.int .i64 0, .int .i64 0, .nilFunc] 120) := ⟨_, rfl⟩
  rw [← h1] at B1 ⊢
  clear h1
  refine rounds_step ?_
  intro K1 HK1
  have i1 := ix1 w1
  go_wp2_with fail
  refine (H2.out _).mono ?_
  rintro e v1 ⟨rfl, b1⟩
  clear i1
  have n1 := ne_nil (v1.alloc (.cells #[.int .i64 0, .int .i64 0, .nilFunc] 120))
  have B2 : Hid (Below w0.heap.size w0 (v1.alloc (.cells #[.int .i64 0, .int .i64 0, .nilFunc] 120))) := bstep B1.out b1 B1.out.size
  clear b1
  go_wp2_with fail
  refine HK1.out _ _ ?_
  clear HK1 K1 n1 B1
  obtain ⟨w2, h2⟩ : ∃ W, W = v1.alloc (.cells #[.int .i64 0, .int .i64 0, .nilFunc] 120) := ⟨_, rfl⟩
  rw [← h2] at B2 ⊢
  clear h2
  refine rounds_step ?_
  intro K2 HK2
  have i2 := ix2 w2
  go_wp2_with fail
  refine (H3.out _).mono ?_
  rintro e v2 ⟨rfl, b2⟩
  clear i2
  have n2 := ne_nil (v2.alloc (.cells #[.int .i64 0, .int .i64 0, .nilFunc] 120))
  have B3 : Hid (Below w0.heap.size w0 (v2.alloc (.cells #[.int .i64 0, .int .i64 0, .nilFunc] 120))) := bstep B2.out b2 B2.out.size
  clear b2
  go_wp2_with fail
  refine HK2.out _ _ ?_
  clear HK2 K2 n2 B2
  obtain ⟨w3, h3⟩ : ∃ W, W = v2.alloc (.cells #[.int .i64 0, .int .i64 0, .nilFunc] 120) := ⟨_, rfl⟩
  rw [← h3] at B3 ⊢
  clear h3
  refine rounds_step ?_
  intro K HK
  have i3 := ix3 w3
  go_wp2_with fail
  refine (H4.out _).mono ?_
  rintro e v3 ⟨p, q, rfl, ht, b3⟩
  clear i3 HK
  have B4 : Below w0.heap.size w0 v3 := bnext B3.out b3 B3.out.size
  have hq1 : v3.heap[w.heap.size]? = some (.cells #[.int .i64 0, .int .i64 0, .nilFunc] 120 (0, 0)) := by
    rw [B4.block _ (by rw [HW.out]; simp; omega), HW.out]
    exact (((Below.refl (w.heap.size + 1) _).alloc (by simp) _).block w.heap.size (by omega)).trans (heap_alloc_new w _)
  have B5 : Hid (Below w.heap.size w v3) := bnext (show Below w.heap.size w w0 by rw [HW.out]; exact ((Below.refl _ _).alloc (Nat.le_refl _) _).alloc (by simp) _) B4 (by rw [HW.out]; simp; omega)
  have hlt : w.heap.size < v3.heap.size := fm.lt_blk hq1
  have HTk : Hid (Taking v3 ⟨#[116, 116]⟩ 197 p q) := ht
  clear B4 b3 B3 HW ht
  obtain ⟨v4, h4⟩ : ∃ W, W = v3.alloc (.cells #[.int .i64 2, .int .i64 2, .func (.func 245) #[] #[.pointer (some ⟨p, 0, none⟩), .pointer (some ⟨q, 0, none⟩)]] 120) := ⟨_, rfl⟩
  have n3 := ne_fn p q v4
  rw [h4] at n3
  have hq4 : v4.heap[w.heap.size]? = some (.cells #[.int .i64 0, .int .i64 0, .nilFunc] 120 (0, 0)) := by
    rw [h4]; exact (((Below.refl v3.heap.size v3).alloc (Nat.le_refl _) _).block _ hlt).trans hq1
  have HQ1 : Hid (v4.heap[w.heap.size]? = some (.cells #[.int .i64 0, .int .i64 0, .nilFunc] 120 (0, 0))) := hq4
  have B6 : Hid (Below w.heap.size w v4) := by rw [h4]; exact B5.out.alloc (Nat.le_of_lt hlt) _
  have HT4 : Hid (Taking v4 ⟨#[116, 116]⟩ 197 p q) := by rw [h4]; exact HTk.out.below ((Below.refl _ _).alloc (Nat.le_refl _) _)
  have c0 : v4.cell? ⟨w.heap.size, 0, none⟩ = some (.int .i64 0) := by simp [World.cell?, hq4]
  have c1 : v4.cell? ⟨w.heap.size, 1, none⟩ = some (.int .i64 0) := by simp [World.cell?, hq4]
  have c2 : v4.cell? ⟨w.heap.size, 2, none⟩ = some .nilFunc := by simp [World.cell?, hq4]
  have f0 : ∀ o, v4.frozen? ⟨w.heap.size, o, none⟩ = false := fun o => by simp [World.frozen?, hq4]
  have H44 : Hid (v3.alloc (.cells #[.int .i64 2, .int .i64 2, .func (.func 245) #[] #[.pointer (some ⟨p, 0, none⟩), .pointer (some ⟨q, 0, none⟩)]] 120) = v4) := h4.symm
  rw [h4] at c0 c1 c2 f0
  have NP : p ≠ w.heap.size := fun h => by have := HTk.out.letters; rw [h, hq1] at this; simp at this
  have NQ : q ≠ w.heap.size := fun h => by have := HTk.out.work; rw [h, hq1] at this; simp at this
  clear hq4 hq1 hlt h4
  go_wp2_with fail
  rw [H44.out] at *
  refine fin3e HQ1.out (Q := bodyPost _ _ _ _ _) ?_
  clear c0 c1 c2 f0
  intro w2 hq2 hk2 he2
  obtain ⟨d0, d1, d2⟩ := cells3v hq2
  exact bodyPost_ret (v := fnV 2 p q) (by simp [results, Tryz.results83, go_sem, d0, d1, d2]) rfl ⟨p, q, rfl, HT4.out.keep he2 NP NQ, B6.out.trans (hk2 _ (Nat.le_refl _))⟩
end Go.Proofs.YtoaejcppfmjhdaaGreatDoor.ev
