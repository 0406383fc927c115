/- The law EvalFinds, walked: its loop and what it returns. Conditions: what lies in its blocks. -/
import Derived.Test.YtoebppmagkijjaaGreatDoorLr
import Derived.Test.YtoebppmagkijjaaGreatDoorEy
namespace Go.Proofs.YtoebppmagkijjaaGreatDoor.ev
open Go.RowKit
theorem LS.al {w wx : World} {L : List (Nat × Array Value × TypeId)} (h : LS w L wx) (cs : Array Value) (t : TypeId) : LS w L (wx.alloc (.cells cs t)) := (h.alloc cs t).sub (fun _ hx => List.mem_cons_of_mem _ hx)
theorem LS.set3 {w wr wx : World} {L : List (Nat × Array Value × TypeId)} {a0 a1 a2 : Value} {ty : TypeId} (hr : LS w L wr) (hb : Below wr.heap.size wr wx) (hz : wx.heap[wr.heap.size]? = some (.cells #[a0, a1, a2] ty (0, 0))) (u0 u1 u2 : Value) : LS w ((wr.heap.size, #[u0, u1, u2], ty) :: L) (((wx.setCell ⟨wr.heap.size, 0, none⟩ u0).setCell ⟨wr.heap.size, 1, none⟩ u1).setCell ⟨wr.heap.size, 2, none⟩ u2) :=
  fin3 hz (Q := fun W => LS w ((wr.heap.size, #[u0, u1, u2], ty) :: L) W) (fun w2 h2 hk => ⟨fun x hx => by
    rcases List.mem_cons.1 hx with rfl | hx
    · exact h2
    · exact (hr.next (hb.trans (hk _ (Nat.le_refl _)))).blks x hx, (hr.next (hb.trans (hk _ (Nat.le_refl _)))).below⟩)
abbrev B6 (w : World) (b1 b2 : Nat) (L : List (Nat × Array Value × TypeId)) (wx : World) : Prop := wx.cell? ⟨b1, 0, none⟩ = some (.int .i64 4) ∧ wx.cell? ⟨b1, 1, none⟩ = some (.int .i64 6) ∧ wx.cell? ⟨b1, 2, none⟩ = some (.string nul) ∧ wx.cell? ⟨b2, 0, none⟩ = some (.int .i64 4) ∧ wx.cell? ⟨b2, 1, none⟩ = some (.int .i64 6) ∧ wx.cell? ⟨b2, 2, none⟩ = some (.string nul) ∧ LS w L wx
theorem b6l {w : World} {b1 b2 : Nat} {L : List (Nat × Array Value × TypeId)} {wx : World} (h : B6 w b1 b2 L wx) : LS w L wx := h.2.2.2.2.2.2
theorem b6 {w : World} {b1 b2 : Nat} {L : List (Nat × Array Value × TypeId)} {wx : World} (h : LS w L wx) (hm : (b1, #[.int .i64 4, .int .i64 6, .string nul], 31) ∈ L) (hn : (b2, #[.int .i64 4, .int .i64 6, .string nul], 31) ∈ L) : B6 w b1 b2 L wx := by
  obtain ⟨q0, q1, q2⟩ := cells3v (h.blks _ hm)
  obtain ⟨q3, q4, q5⟩ := cells3v (h.blks _ hn)
  exact ⟨q0, q1, q2, q3, q4, q5, h⟩
abbrev B12 (w : World) (g o j bm bu bk : Nat) (a b : Int) (d : ByteArray) (L : List (Nat × Array Value × TypeId)) (wx : World) : Prop := wx.cell? ⟨g, o + j * 3, none⟩ = some (.int .i64 a) ∧ wx.cell? ⟨g, o + j * 3 + 1, none⟩ = some (.int .i64 b) ∧ wx.cell? ⟨g, o + j * 3 + 2, none⟩ = some (.string d) ∧ wx.cell? ⟨bm, 0, none⟩ = some (.int .i64 1) ∧ wx.cell? ⟨bm, 1, none⟩ = some (.int .i64 ((j : Int) + 1)) ∧ wx.cell? ⟨bm, 2, none⟩ = some (.string nul) ∧ wx.cell? ⟨bu, 0, none⟩ = some (.int .i64 a) ∧ wx.cell? ⟨bu, 1, none⟩ = some (.int .i64 b) ∧ wx.cell? ⟨bu, 2, none⟩ = some (.string d) ∧ wx.cell? ⟨bk, 0, none⟩ = some (.int .i64 a) ∧ wx.cell? ⟨bk, 1, none⟩ = some (.int .i64 b) ∧ wx.cell? ⟨bk, 2, none⟩ = some (.string d) ∧ LS w L wx
theorem b12l {w : World} {g o j bm bu bk : Nat} {a b : Int} {d : ByteArray} {L : List (Nat × Array Value × TypeId)} {wx : World} (h : B12 w g o j bm bu bk a b d L wx) : LS w L wx := h.2.2.2.2.2.2.2.2.2.2.2.2
/-- The first place told, as the law counts. -/
def fI (b : Nat → Bool) (i : Nat) : Int := if fstB b i < i then (fstB b i : Int) + 1 else 0
theorem fstB_le (b : Nat → Bool) (n : Nat) : fstB b n ≤ n := by
  induction n with
  | zero => exact Nat.le_refl _
  | succ n ih => unfold fstB; split <;> (try split) <;> omega
theorem fI_no (b : Nat → Bool) (i : Nat) (h : b i = false) : fI b (i + 1) = fI b i := by
  unfold fI
  have := fstB_le b i
  by_cases e : fstB b i < i
  · rw [show fstB b (i + 1) = fstB b i from by rw [fstB, if_pos e], if_pos (by omega), if_pos e]
  · rw [show fstB b (i + 1) = i + 1 from by rw [fstB, if_neg e, if_neg (by rw [h]; decide)], if_neg (by omega), if_neg e]
theorem fI_yes (b : Nat → Bool) (i : Nat) (h : b i = true) : fI b (i + 1) = if fI b i = 0 then (i : Int) + 1 else fI b i := by
  unfold fI
  by_cases e : fstB b i < i
  · rw [show fstB b (i + 1) = fstB b i from by rw [fstB, if_pos e], if_pos (by omega), if_pos e, if_neg (by omega)]
  · rw [show fstB b (i + 1) = i from by rw [fstB, if_neg e, if_pos h], if_pos (by omega), if_neg e, if_pos rfl]
theorem fI_le (b : Nat → Bool) (i : Nat) : 0 ≤ fI b i ∧ fI b i ≤ (i : Int) := by
  unfold fI
  split <;> omega
/-- What a value and the wanted one are compared to. -/
theorem cmp_any (k n : Int) (s : ByteArray) (k' n' : Int) (s' : ByteArray) (h4' : k' ≠ 4) (hv : vv.isVal k n s = true) (hv' : vv.isVal k' n' s' = true) : ∃ rk rn rs, (∀ w, Calls Tryz.prog 20 #[.int .i64 1, VV k n s, VV k' n' s'] w fun e w' => e = .returned (VV rk rn rs) ∧ Below w.heap.size w w') ∧ (rk == 3 && rn == 1 && rs.toList == nul.toList) = eqT k n s k' n' s' := by
  by_cases h : k = 4
  · subst h
    exact ⟨4, n, s, fun w => vv.rtwo_a 1 (by decide) (by decide) n s k' n' s' w, by rw [show eqT 4 n s k' n' s' = false from if_pos (.inl rfl)]; rfl⟩
  · refine ⟨3, _, nul, fun w => vv.rtwo_1 k n s k' n' s' w (by simpa using h) (by simpa using h4') hv hv', ?_⟩
    rw [show eqT k n s k' n' s' = (vv.cmpB k n s k' n' s' == 0) from if_neg (by simp [h, h4'])]
    cases (vv.cmpB k n s k' n' s' == 0) <;> simp [vv.b2n]
/-- The value's cells and the wanted one's, opened. -/
abbrev VO (w : World) (g o i b0 : Nat) (a b : Int) (d : ByteArray) (k' n' : Int) (s' : ByteArray) (L : List (Nat × Array Value × TypeId)) (wx : World) : Prop :=
  wx.cell? ⟨g, o + i * 3, none⟩ = some (.int .i64 a) ∧ wx.cell? ⟨g, o + i * 3 + 1, none⟩ = some (.int .i64 b) ∧ wx.cell? ⟨g, o + i * 3 + 2, none⟩ = some (.string d) ∧ wx.cell? ⟨b0, 0, none⟩ = some (.int .i64 k') ∧ wx.cell? ⟨b0, 1, none⟩ = some (.int .i64 n') ∧ wx.cell? ⟨b0, 2, none⟩ = some (.string s') ∧ LS w L wx
theorem vol {w : World} {g o i b0 : Nat} {a b : Int} {d : ByteArray} {k' n' : Int} {s' : ByteArray} {L : List (Nat × Array Value × TypeId)} {wx : World} (h : VO w g o i b0 a b d k' n' s' L wx) : LS w L wx := h.2.2.2.2.2.2
abbrev B3 (w : World) (b1 : Nat) (a b : Int) (d : ByteArray) (L : List (Nat × Array Value × TypeId)) (wx : World) : Prop := wx.cell? ⟨b1, 0, none⟩ = some (.int .i64 a) ∧ wx.cell? ⟨b1, 1, none⟩ = some (.int .i64 b) ∧ wx.cell? ⟨b1, 2, none⟩ = some (.string d) ∧ LS w L wx
theorem b3l {w : World} {b1 : Nat} {a b : Int} {d : ByteArray} {L : List (Nat × Array Value × TypeId)} {wx : World} (h : B3 w b1 a b d L wx) : LS w L wx := h.2.2.2
theorem b3 {w : World} {b1 : Nat} {a b : Int} {d : ByteArray} {L : List (Nat × Array Value × TypeId)} {wx : World} (h : LS w L wx) (hm : (b1, #[.int .i64 a, .int .i64 b, .string d], 31) ∈ L) : B3 w b1 a b d L wx := by
  obtain ⟨q0, q1, q2⟩ := cells3v (h.blks _ hm)
  exact ⟨q0, q1, q2, h⟩
noncomputable def tail17C : Code := ((Tryz.f6.body.bind (findTail 18)).getD .skip)
set_option maxRecDepth 1000000 in
set_option maxHeartbeats 16000000 in
theorem tail17 (p : Option Addr) (q c : Nat) (k m : Nat → Int) (z : Nat → ByteArray) (k' n' : Int) (s' : ByteArray) (hq1 : 1 ≤ q) (hq90 : q ≤ 90) (h4 : k' ≠ 4) (HVs : Hid (∀ i, i < q → vv.isVal (k i) (m i) (z i) = true)) (HW : Hid (vv.isVal k' n' s' = true)) (w : World) (HV : Hid (VM w p q k m z))
    (b0 bb bm bc bu g2 cap2 : Nat) (CUR : Array Value) (mk mm uk um : Int) (uz : ByteArray) (C : Nat) (HC : Hid (C = cntB (fun i => eqT (k i) (m i) (z i) k' n' s') q)) (HCase : Hid ((C = 0 ∧ mk = 4 ∧ mm = 6 ∧ uk = 4 ∧ um = 6 ∧ uz = nul) ∨ (∃ j, j < q ∧ fI (fun i => eqT (k i) (m i) (z i) k' n' s') q = (j : Int) + 1 ∧ 0 < C ∧ mk = 1 ∧ mm = (j : Int) + 1 ∧ uk = k j ∧ um = m j ∧ uz = z j)))
    (HIdx : Hid (∀ j, j < q → ∀ wx g, Below w.heap.size w wx → wx.heap[g]? = some (.cells #[.int .i64 6, .int .i64 0, .string nul, .int .i64 1, .int .i64 1, .bool false, .bool false, .int .i64 1, .int .i64 (q : Int), .bool false, .bool false, .slice none 0 0, .int .i64 1, .int .i64 ((j : Int) + 1), .string nul, .int .i64 0, .int .i64 0, .bool false, .bool false, .int .i64 0, .int .i64 0, .bool false, .bool false, .slice none 0 0, .int .i64 1, .int .i64 1, .string nul, .int .i64 0, .int .i64 0, .bool false, .bool false, .int .i64 0, .int .i64 0, .bool false, .bool false, .slice none 0 0] 28 (0, 0)) → wx.heap[g2]? = some (.cells CUR 40 (0, 0)) → Calls Tryz.prog 14 #[fm.NV 9 0 ⟨#[73, 78, 68, 69, 88]⟩ .z .z (.slice (some ⟨g, 0, none⟩) 3 3), .slice (some ⟨g2, 0, none⟩) (q + 1) cap2] wx fun e w' => e = .returned (.tuple #[VV (k j) (m j) (z j), .bool true]) ∧ Below wx.heap.size wx w')) (wc : World) (hS : LS w [(bu, #[.int .i64 uk, .int .i64 um, .string uz], 31), (bc, #[.int .i64 1, .int .i64 (C : Int), .string nul], 31), (bm, #[.int .i64 mk, .int .i64 mm, .string nul], 31), (bb, #[.int .i64 6, .int .i64 0, .string nul, .int .i64 1, .int .i64 1, .bool false, .bool false, .int .i64 1, .int .i64 (q : Int), .bool false, .bool false, .slice none 0 0], 28), (b0, #[.int .i64 k', .int .i64 n', .string s'], 31), (g2, CUR, 40)] wc)
    (l2 l4 l5 l6 l7 l8 l11 l13 l15 l17 l19 l20 l21 l22 l23 l24 l25 l26 l27 l28 l29 l30 l31 l32 l33 l34 l35 l36 l37 l38 l39 l40 l41 l42 l43 l44 l45 l46 l47 l48 l49 l50 l51 l52 l53 l54 l55 l56 l57 l58 l59 l60 l61 l62 l63 l64 l65 l66 l67 l68 l69 l70 l71 l72 l73 l74 l75 l76 l77 l78 l79 l80 l81 l82 l83 l84 l85 l86 l87 l88 l89 l90 l91 l92 l93 l94 l95 l96 l97 l98 l99 l100 l101 l102 l103 l104 l105 l106 l107 l108 l109 l110 l111 l112 l113 l114 l115 l116 l117 l118 l119 l120 l121 l122 l123 l124 l125 l126 l127 l128 l129 l130 l131 l132 l133 l134 l135 l136 l137 l138 l139 l140 l141 l142 l143 l144 l145 l146 l147 l148 l149 l150 l151 l152 l153 l154 l155 l156 l157 l158 l159 l160 l161 l162 l163 l164 l165 l166 l167 l168 l169 l170 l171 : Value) :
    Code.wp Tryz.prog tail17C (bodyPost Tryz.prog Tryz.f6 fun e w' => e = .returned (.bool true) ∧ Below w.heap.size w w') ⟨#[.slice p q c, VV k' n' s', l2, .pointer (some ⟨b0, 0, none⟩), l4, l5, l6, l7, l8, .slice (some ⟨g2, 0, none⟩) (q + 1) cap2, .pointer (some ⟨bb, 0, none⟩), l11, .pointer (some ⟨bm, 0, none⟩), l13, .pointer (some ⟨bc, 0, none⟩), l15, .pointer (some ⟨bu, 0, none⟩), l17, .int .i64 0, l19, l20, l21, l22, l23, l24, l25, l26, l27, l28, l29, l30, l31, l32, l33, l34, l35, l36, l37, l38, l39, l40, l41, l42, l43, l44, l45, l46, l47, l48, l49, l50, l51, l52, l53, l54, l55, l56, l57, l58, l59, l60, l61, l62, l63, l64, l65, l66, l67, l68, l69, l70, l71, l72, l73, l74, l75, l76, l77, l78, l79, l80, l81, l82, l83, l84, l85, l86, l87, l88, l89, l90, l91, l92, l93, l94, l95, l96, l97, l98, l99, l100, l101, l102, l103, l104, l105, l106, l107, l108, l109, l110, l111, l112, l113, l114, l115, l116, l117, l118, l119, l120, l121, l122, l123, l124, l125, l126, l127, l128, l129, l130, l131, l132, l133, l134, l135, l136, l137, l138, l139, l140, l141, l142, l143, l144, l145, l146, l147, l148, l149, l150, l151, l152, l153, l154, l155, l156, l157, l158, l159, l160, l161, l162, l163, l164, l165, l166, l167, l168, l169, l170, l171], []⟩ wc := by
  dsimp only
  conv => arg 2; whnf
  have H20 : Hid (∀ i, i < q → ∃ rk rn rs, (∀ w, Calls Tryz.prog 20 #[.int .i64 1, VV (k i) (m i) (z i), VV k' n' s'] w fun e w' => e = .returned (VV rk rn rs) ∧ Below w.heap.size w w') ∧ (rk == 3 && rn == 1 && rs.toList == nul.toList) = eqT (k i) (m i) (z i) k' n' s') := fun i hi => cmp_any _ _ _ _ _ _ h4 (HVs.out i hi) HW.out
  have H22 : Hid (∀ wx, Calls Tryz.prog 22 #[.bool true] wx fun e w' => e = .returned (VV 3 1 nul) ∧ Below wx.heap.size wx w') := rtru
  have H10 : Hid (∀ n wx, Calls Tryz.prog 10 #[.int .i64 n] wx fun e w' => e = .returned (VV 1 n nul) ∧ Below wx.heap.size wx w') := rnum
  have H23 : Hid (∀ n wx, Calls Tryz.prog 23 #[.int .i64 n] wx fun e w' => e = .returned (VV 4 n nul) ∧ Below wx.heap.size wx w') := rbad
  have H15 : Hid (∀ nm p q c wx, Calls Tryz.prog 15 #[.string nm, .slice p q c] wx fun e w' => e = .returned (fm.NV 9 0 nm .z .z (.slice p q c)) ∧ Below wx.heap.size wx w') := lcall
  have hg31 : Tryz.prog.eqGuardType Tryz.prog.depth 31 = false := by kernel_rfl
  go_wp2_with fail
  go_loopw [18, 19, 20] (fun s18 s19 s20 wr => ∃ i : Nat, s20 = .int .i64 i ∧ i ≤ q ∧ s18 = .int .i64 (cntB (fun i => eqT (k i) (m i) (z i) k' n' s') i : Nat) ∧ s19 = .int .i64 (fI (fun i => eqT (k i) (m i) (z i) k' n' s') i) ∧ LS w [(bu, #[.int .i64 uk, .int .i64 um, .string uz], 31), (bc, #[.int .i64 1, .int .i64 (C : Int), .string nul], 31), (bm, #[.int .i64 mk, .int .i64 mm, .string nul], 31), (bb, #[.int .i64 6, .int .i64 0, .string nul, .int .i64 1, .int .i64 1, .bool false, .bool false, .int .i64 1, .int .i64 (q : Int), .bool false, .bool false, .slice none 0 0], 28), (b0, #[.int .i64 k', .int .i64 n', .string s'], 31), (g2, CUR, 40)] wr) (fun _ _ s20 _ => q - (intOf s20).toNat)
  case atStart => exact ⟨0, rfl, Nat.zero_le _, rfl, rfl, hS⟩
  case round =>
    obtain ⟨i, rfl, hi, rfl, rfl, hr⟩ := hrel
    by_cases hlt : i < q
    · have hlt' : (i : Int) < (q : Int) := by omega
      have hi0 : (0 : Int) ≤ (i : Int) := by omega
      obtain ⟨rk, rn, rs, hK, hE⟩ := H20.out i hlt
      have HK : Hid (∀ w, Calls Tryz.prog 20 #[.int .i64 1, VV (k i) (m i) (z i), VV k' n' s'] w fun e w' => e = .returned (VV rk rn rs) ∧ Below w.heap.size w w') := hK
      have HEQ : Hid ((rk == 3 && rn == 1 && rs.toList == nul.toList) = eqT (k i) (m i) (z i) k' n' s') := hE
      clear hK hE
      rcases HV.out with h | ⟨g, o, rfl, hg, h3⟩
      · omega
      have vo : ∀ wx, LS w [(bu, #[.int .i64 uk, .int .i64 um, .string uz], 31), (bc, #[.int .i64 1, .int .i64 (C : Int), .string nul], 31), (bm, #[.int .i64 mk, .int .i64 mm, .string nul], 31), (bb, #[.int .i64 6, .int .i64 0, .string nul, .int .i64 1, .int .i64 1, .bool false, .bool false, .int .i64 1, .int .i64 (q : Int), .bool false, .bool false, .slice none 0 0], 28), (b0, #[.int .i64 k', .int .i64 n', .string s'], 31), (g2, CUR, 40)] wx → VO w g o i b0 (k i) (m i) (z i) k' n' s' [(bu, #[.int .i64 uk, .int .i64 um, .string uz], 31), (bc, #[.int .i64 1, .int .i64 (C : Int), .string nul], 31), (bm, #[.int .i64 mk, .int .i64 mm, .string nul], 31), (bb, #[.int .i64 6, .int .i64 0, .string nul, .int .i64 1, .int .i64 1, .bool false, .bool false, .int .i64 1, .int .i64 (q : Int), .bool false, .bool false, .slice none 0 0], 28), (b0, #[.int .i64 k', .int .i64 n', .string s'], 31), (g2, CUR, 40)] wx := fun wx hb => by
        obtain ⟨q0, q1, q2⟩ := h3 i hlt
        obtain ⟨x0, x1, x2⟩ := cells3v (hb.blks (b0, #[.int .i64 k', .int .i64 n', .string s'], 31) (by simp))
        exact ⟨by rw [hb.below.cell (p := ⟨g, _, none⟩) hg]; exact q0, by rw [hb.below.cell (p := ⟨g, _, none⟩) hg]; exact q1, by rw [hb.below.cell (p := ⟨g, _, none⟩) hg]; exact q2, x0, x1, x2, hb⟩
      have h0d := vo _ (show LS w [(bu, #[.int .i64 uk, .int .i64 um, .string uz], 31), (bc, #[.int .i64 1, .int .i64 (C : Int), .string nul], 31), (bm, #[.int .i64 mk, .int .i64 mm, .string nul], 31), (bb, #[.int .i64 6, .int .i64 0, .string nul, .int .i64 1, .int .i64 1, .bool false, .bool false, .int .i64 1, .int .i64 (q : Int), .bool false, .bool false, .slice none 0 0], 28), (b0, #[.int .i64 k', .int .i64 n', .string s'], 31), (g2, CUR, 40)] wr.drew from ⟨hr.blks, hr.below.drew⟩)
      obtain ⟨y0, y1, y2, y3, y4, y5, -⟩ := vo _ hr
      clear h3
      go_upto_region 22 with fail
      go_cut [21] (fun s21 wx => ∃ b1, s21 = .pointer (some ⟨b1, 0, none⟩) ∧ LS w [(b1, #[.int .i64 rk, .int .i64 rn, .string rs], 31), (bu, #[.int .i64 uk, .int .i64 um, .string uz], 31), (bc, #[.int .i64 1, .int .i64 (C : Int), .string nul], 31), (bm, #[.int .i64 mk, .int .i64 mm, .string nul], 31), (bb, #[.int .i64 6, .int .i64 0, .string nul, .int .i64 1, .int .i64 1, .bool false, .bool false, .int .i64 1, .int .i64 (q : Int), .bool false, .bool false, .slice none 0 0], 28), (b0, #[.int .i64 k', .int .i64 n', .string s'], 31), (g2, CUR, 40)] wx)
      case first =>
        go_region_held3 (fun wx => VO w g o i b0 (k i) (m i) (z i) k' n' s' [(bu, #[.int .i64 uk, .int .i64 um, .string uz], 31), (bc, #[.int .i64 1, .int .i64 (C : Int), .string nul], 31), (bm, #[.int .i64 mk, .int .i64 mm, .string nul], 31), (bb, #[.int .i64 6, .int .i64 0, .string nul, .int .i64 1, .int .i64 1, .bool false, .bool false, .int .i64 1, .int .i64 (q : Int), .bool false, .bool false, .slice none 0 0], 28), (b0, #[.int .i64 k', .int .i64 n', .string s'], 31), (g2, CUR, 40)] wx) (first | exact h0d | exact vo _ ((vol (by assumption)).next (by assumption)) | exact vo _ ((vol (by assumption)).al _ _) | exact vo _ (((vol h0d).next (by assumption)).al _ _) | exact vo _ (hr.next ((((show Below wr.heap.size wr _ by assumption).setCell (Nat.le_refl _) _).setCell (Nat.le_refl _) _).setCell (Nat.le_refl _) _))) (first | (go_at_call 20; refine (HK.out _).mono ?_; rintro e w3 ⟨rfl, q3⟩; (first | (have hz3 : w3.heap[wr.heap.size]? = some (.cells #[.int .i64 0, .int .i64 0, .string nul] 31 (0, 0)) := (q3.block wr.heap.size (by simp)).trans (heap_alloc_new wr.drew _); obtain ⟨z0, z1, z2⟩ := cells3v hz3; have zf := frz hz3; have hB3 : Below wr.heap.size wr w3 := bnext ((Below.refl wr.heap.size wr).drew.alloc (Nat.le_refl _) _) q3 (by simp)) | skip)))
        all_goals
          go_wp2_with fail
          go_meet
          case rel => first | exact ⟨_, rfl, ((vol h0d).next q3).alloc _ _⟩ | exact ⟨_, rfl, hr.set3 hB3 hz3 _ _ _⟩
      case rest =>
      clear h0d y0 y1 y2 y3 y4 y5 vo hr HK
      obtain ⟨b1, rfl, hs1⟩ := hcut
      have bo : ∀ wx, LS w [(b1, #[.int .i64 rk, .int .i64 rn, .string rs], 31), (bu, #[.int .i64 uk, .int .i64 um, .string uz], 31), (bc, #[.int .i64 1, .int .i64 (C : Int), .string nul], 31), (bm, #[.int .i64 mk, .int .i64 mm, .string nul], 31), (bb, #[.int .i64 6, .int .i64 0, .string nul, .int .i64 1, .int .i64 1, .bool false, .bool false, .int .i64 1, .int .i64 (q : Int), .bool false, .bool false, .slice none 0 0], 28), (b0, #[.int .i64 k', .int .i64 n', .string s'], 31), (g2, CUR, 40)] wx → B3 w b1 rk rn rs [(b1, #[.int .i64 rk, .int .i64 rn, .string rs], 31), (bu, #[.int .i64 uk, .int .i64 um, .string uz], 31), (bc, #[.int .i64 1, .int .i64 (C : Int), .string nul], 31), (bm, #[.int .i64 mk, .int .i64 mm, .string nul], 31), (bb, #[.int .i64 6, .int .i64 0, .string nul, .int .i64 1, .int .i64 1, .bool false, .bool false, .int .i64 1, .int .i64 (q : Int), .bool false, .bool false, .slice none 0 0], 28), (b0, #[.int .i64 k', .int .i64 n', .string s'], 31), (g2, CUR, 40)] wx := fun wx h => b3 h (by simp)
      have h0d := bo _ (show LS w [(b1, #[.int .i64 rk, .int .i64 rn, .string rs], 31), (bu, #[.int .i64 uk, .int .i64 um, .string uz], 31), (bc, #[.int .i64 1, .int .i64 (C : Int), .string nul], 31), (bm, #[.int .i64 mk, .int .i64 mm, .string nul], 31), (bb, #[.int .i64 6, .int .i64 0, .string nul, .int .i64 1, .int .i64 1, .bool false, .bool false, .int .i64 1, .int .i64 (q : Int), .bool false, .bool false, .slice none 0 0], 28), (b0, #[.int .i64 k', .int .i64 n', .string s'], 31), (g2, CUR, 40)] wc.drew from ⟨hs1.blks, hs1.below.drew⟩)
      obtain ⟨y0, y1, y2, -⟩ := bo _ hs1
      go_upto_region 23 with fail
      go_cut [119] (fun s119 wx => s119 = .bool (eqT (k i) (m i) (z i) k' n' s') ∧ LS w [(bu, #[.int .i64 uk, .int .i64 um, .string uz], 31), (bc, #[.int .i64 1, .int .i64 (C : Int), .string nul], 31), (bm, #[.int .i64 mk, .int .i64 mm, .string nul], 31), (bb, #[.int .i64 6, .int .i64 0, .string nul, .int .i64 1, .int .i64 1, .bool false, .bool false, .int .i64 1, .int .i64 (q : Int), .bool false, .bool false, .slice none 0 0], 28), (b0, #[.int .i64 k', .int .i64 n', .string s'], 31), (g2, CUR, 40)] wx)
      case first =>
        have e31 : ∀ (a b : Int) (c : ByteArray) (a' b' : Int) (c' : ByteArray) (W : World), (binOp BinOp.eql 31 (VV a b c) (VV a' b' c')).run Tryz.prog W = .ok (.bool (a == a' && b == b' && c.toList == c'.toList)) W := eql31g
        go_region_held3 (fun wx => B3 w b1 rk rn rs [(b1, #[.int .i64 rk, .int .i64 rn, .string rs], 31), (bu, #[.int .i64 uk, .int .i64 um, .string uz], 31), (bc, #[.int .i64 1, .int .i64 (C : Int), .string nul], 31), (bm, #[.int .i64 mk, .int .i64 mm, .string nul], 31), (bb, #[.int .i64 6, .int .i64 0, .string nul, .int .i64 1, .int .i64 1, .bool false, .bool false, .int .i64 1, .int .i64 (q : Int), .bool false, .bool false, .slice none 0 0], 28), (b0, #[.int .i64 k', .int .i64 n', .string s'], 31), (g2, CUR, 40)] wx) (first | exact h0d | exact bo _ ((b3l (by assumption)).next (by assumption))) (first | (go_at_call 22; refine (H22.out _).mono ?_; rintro e w4 ⟨rfl, q4⟩))
        all_goals
          go_wp2_with fail
          go_meet
          case rel => exact ⟨by rw [← HEQ.out]; simp, ((b3l h0d).next q4).sub (by simp)⟩
      case rest =>
      clear h0d y0 y1 y2 bo hs1 HEQ
      obtain ⟨rfl, hs2⟩ := hcut
      have HS2 : Hid (LS w [(bu, #[.int .i64 uk, .int .i64 um, .string uz], 31), (bc, #[.int .i64 1, .int .i64 (C : Int), .string nul], 31), (bm, #[.int .i64 mk, .int .i64 mm, .string nul], 31), (bb, #[.int .i64 6, .int .i64 0, .string nul, .int .i64 1, .int .i64 1, .bool false, .bool false, .int .i64 1, .int .i64 (q : Int), .bool false, .bool false, .slice none 0 0], 28), (b0, #[.int .i64 k', .int .i64 n', .string s'], 31), (g2, CUR, 40)] wc) := hs2
      clear hs2
      have hcl := cntB_le (fun i => eqT (k i) (m i) (z i) k' n' s') i
      obtain ⟨hf0, hf1⟩ := fI_le (fun i => eqT (k i) (m i) (z i) k' n' s') i
      cases hb : eqT (k i) (m i) (z i) k' n' s' with
      | false =>
        have HN : Hid (cntB (fun i => eqT (k i) (m i) (z i) k' n' s') (i + 1) = cntB (fun i => eqT (k i) (m i) (z i) k' n' s') i ∧ fI (fun i => eqT (k i) (m i) (z i) k' n' s') (i + 1) = fI (fun i => eqT (k i) (m i) (z i) k' n' s') i) := ⟨by simp [cntB, hb], fI_no _ _ hb⟩
        clear hb
        go_wp2_with fail
        exact ⟨⟨i + 1, by simp, hlt, by rw [HN.out.1], by rw [HN.out.2], HS2.out⟩, by simp [intOf]; omega⟩
      | true =>
        have HN : Hid (cntB (fun i => eqT (k i) (m i) (z i) k' n' s') (i + 1) = cntB (fun i => eqT (k i) (m i) (z i) k' n' s') i + 1 ∧ fI (fun i => eqT (k i) (m i) (z i) k' n' s') (i + 1) = if fI (fun i => eqT (k i) (m i) (z i) k' n' s') i = 0 then (i : Int) + 1 else fI (fun i => eqT (k i) (m i) (z i) k' n' s') i) := ⟨by simp [cntB, hb], fI_yes _ _ hb⟩
        clear hb
        by_cases hz : fI (fun i => eqT (k i) (m i) (z i) k' n' s') i = 0
        · have HN2 : Hid (fI (fun i => eqT (k i) (m i) (z i) k' n' s') (i + 1) = (i : Int) + 1) := by unfold Hid; rw [HN.out.2, if_pos hz]
          go_wp2_with fail
          exact ⟨⟨i + 1, by simp, hlt, by rw [HN.out.1]; simp, by rw [HN2.out], HS2.out⟩, by simp [intOf]; omega⟩
        · have HN2 : Hid (fI (fun i => eqT (k i) (m i) (z i) k' n' s') (i + 1) = fI (fun i => eqT (k i) (m i) (z i) k' n' s') i) := by unfold Hid; rw [HN.out.2, if_neg hz]
          go_wp2_with fail
          exact ⟨⟨i + 1, by simp, hlt, by rw [HN.out.1]; simp, by rw [HN2.out], HS2.out⟩, by simp [intOf]; omega⟩
    · have hkn : q = i := by omega
      subst hkn
      rw [← HC.out]
      have bo : ∀ wx, LS w [(bu, #[.int .i64 uk, .int .i64 um, .string uz], 31), (bc, #[.int .i64 1, .int .i64 (C : Int), .string nul], 31), (bm, #[.int .i64 mk, .int .i64 mm, .string nul], 31), (bb, #[.int .i64 6, .int .i64 0, .string nul, .int .i64 1, .int .i64 1, .bool false, .bool false, .int .i64 1, .int .i64 (q : Int), .bool false, .bool false, .slice none 0 0], 28), (b0, #[.int .i64 k', .int .i64 n', .string s'], 31), (g2, CUR, 40)] wx → B3 w bc 1 (C : Int) nul [(bu, #[.int .i64 uk, .int .i64 um, .string uz], 31), (bc, #[.int .i64 1, .int .i64 (C : Int), .string nul], 31), (bm, #[.int .i64 mk, .int .i64 mm, .string nul], 31), (bb, #[.int .i64 6, .int .i64 0, .string nul, .int .i64 1, .int .i64 1, .bool false, .bool false, .int .i64 1, .int .i64 (q : Int), .bool false, .bool false, .slice none 0 0], 28), (b0, #[.int .i64 k', .int .i64 n', .string s'], 31), (g2, CUR, 40)] wx := fun wx h => b3 h (by simp)
      have h0d := bo _ (show LS w [(bu, #[.int .i64 uk, .int .i64 um, .string uz], 31), (bc, #[.int .i64 1, .int .i64 (C : Int), .string nul], 31), (bm, #[.int .i64 mk, .int .i64 mm, .string nul], 31), (bb, #[.int .i64 6, .int .i64 0, .string nul, .int .i64 1, .int .i64 1, .bool false, .bool false, .int .i64 1, .int .i64 (q : Int), .bool false, .bool false, .slice none 0 0], 28), (b0, #[.int .i64 k', .int .i64 n', .string s'], 31), (g2, CUR, 40)] wr.drew from ⟨hr.blks, hr.below.drew⟩)
      obtain ⟨y0, y1, y2, -⟩ := bo _ hr
      go_upto_region 27 with fail
      go_cut [129] (fun s129 wx => s129 = .bool false ∧ LS w [(bu, #[.int .i64 uk, .int .i64 um, .string uz], 31), (bc, #[.int .i64 1, .int .i64 (C : Int), .string nul], 31), (bm, #[.int .i64 mk, .int .i64 mm, .string nul], 31), (bb, #[.int .i64 6, .int .i64 0, .string nul, .int .i64 1, .int .i64 1, .bool false, .bool false, .int .i64 1, .int .i64 (q : Int), .bool false, .bool false, .slice none 0 0], 28), (b0, #[.int .i64 k', .int .i64 n', .string s'], 31), (g2, CUR, 40)] wx)
      case first =>
        have e31 : ∀ (a b : Int) (c : ByteArray) (a' b' : Int) (c' : ByteArray) (W : World), (binOp BinOp.neq 31 (VV a b c) (VV a' b' c')).run Tryz.prog W = .ok (.bool (!(a == a' && b == b' && c.toList == c'.toList))) W := neq31g
        go_region_held3 (fun wx => B3 w bc 1 (C : Int) nul [(bu, #[.int .i64 uk, .int .i64 um, .string uz], 31), (bc, #[.int .i64 1, .int .i64 (C : Int), .string nul], 31), (bm, #[.int .i64 mk, .int .i64 mm, .string nul], 31), (bb, #[.int .i64 6, .int .i64 0, .string nul, .int .i64 1, .int .i64 1, .bool false, .bool false, .int .i64 1, .int .i64 (q : Int), .bool false, .bool false, .slice none 0 0], 28), (b0, #[.int .i64 k', .int .i64 n', .string s'], 31), (g2, CUR, 40)] wx) (first | exact h0d | exact bo _ ((b3l (by assumption)).next (by assumption))) (first | (go_at_call 10; refine (H10.out _ _).mono ?_; rintro e w4 ⟨rfl, q4⟩))
        all_goals
          go_wp2_with fail
          go_meet
          case rel => exact ⟨by simp, (b3l h0d).next q4⟩
      case rest =>
      clear h0d y0 y1 y2 bo hr
      obtain ⟨rfl, hs2⟩ := hcut
      rcases HCase.out with ⟨rfl, rfl, rfl, rfl, rfl, rfl⟩ | ⟨j, hj, hfj, hC0, rfl, rfl, rfl, rfl, rfl⟩
      · have HS2 : Hid (LS w [(bu, #[.int .i64 4, .int .i64 6, .string nul], 31), (bc, #[.int .i64 1, .int .i64 ((0 : Nat) : Int), .string nul], 31), (bm, #[.int .i64 4, .int .i64 6, .string nul], 31), (bb, #[.int .i64 6, .int .i64 0, .string nul, .int .i64 1, .int .i64 1, .bool false, .bool false, .int .i64 1, .int .i64 (q : Int), .bool false, .bool false, .slice none 0 0], 28), (b0, #[.int .i64 k', .int .i64 n', .string s'], 31), (g2, CUR, 40)] wc) := hs2
        clear hs2
        go_upto_region 30 with fail
        have bo : ∀ wx, LS w [(bu, #[.int .i64 4, .int .i64 6, .string nul], 31), (bc, #[.int .i64 1, .int .i64 ((0 : Nat) : Int), .string nul], 31), (bm, #[.int .i64 4, .int .i64 6, .string nul], 31), (bb, #[.int .i64 6, .int .i64 0, .string nul, .int .i64 1, .int .i64 1, .bool false, .bool false, .int .i64 1, .int .i64 (q : Int), .bool false, .bool false, .slice none 0 0], 28), (b0, #[.int .i64 k', .int .i64 n', .string s'], 31), (g2, CUR, 40)] wx → B6 w bm bu [(bu, #[.int .i64 4, .int .i64 6, .string nul], 31), (bc, #[.int .i64 1, .int .i64 ((0 : Nat) : Int), .string nul], 31), (bm, #[.int .i64 4, .int .i64 6, .string nul], 31), (bb, #[.int .i64 6, .int .i64 0, .string nul, .int .i64 1, .int .i64 1, .bool false, .bool false, .int .i64 1, .int .i64 (q : Int), .bool false, .bool false, .slice none 0 0], 28), (b0, #[.int .i64 k', .int .i64 n', .string s'], 31), (g2, CUR, 40)] wx := fun wx h => b6 h (by simp) (by simp)
        have h0d := bo _ (show LS w [(bu, #[.int .i64 4, .int .i64 6, .string nul], 31), (bc, #[.int .i64 1, .int .i64 ((0 : Nat) : Int), .string nul], 31), (bm, #[.int .i64 4, .int .i64 6, .string nul], 31), (bb, #[.int .i64 6, .int .i64 0, .string nul, .int .i64 1, .int .i64 1, .bool false, .bool false, .int .i64 1, .int .i64 (q : Int), .bool false, .bool false, .slice none 0 0], 28), (b0, #[.int .i64 k', .int .i64 n', .string s'], 31), (g2, CUR, 40)] wc.drew from ⟨HS2.out.blks, HS2.out.below.drew⟩)
        obtain ⟨y0, y1, y2, y3, y4, y5, -⟩ := bo _ HS2.out
        go_cut [4] (fun s4 wx => s4 = .bool true ∧ Below w.heap.size w wx)
        case first =>
          have e31 : ∀ (a b : Int) (c : ByteArray) (W : World), (binOp BinOp.eql 31 (VV a b c) (VV a b c)).run Tryz.prog W = .ok (.bool true) W := eql31
          go_region_held3 (fun wx => B6 w bm bu [(bu, #[.int .i64 4, .int .i64 6, .string nul], 31), (bc, #[.int .i64 1, .int .i64 ((0 : Nat) : Int), .string nul], 31), (bm, #[.int .i64 4, .int .i64 6, .string nul], 31), (bb, #[.int .i64 6, .int .i64 0, .string nul, .int .i64 1, .int .i64 1, .bool false, .bool false, .int .i64 1, .int .i64 (q : Int), .bool false, .bool false, .slice none 0 0], 28), (b0, #[.int .i64 k', .int .i64 n', .string s'], 31), (g2, CUR, 40)] wx) (first | exact h0d | exact bo _ ((b6l (by assumption)).next (by assumption))) (first | (go_at_call 23; refine (H23.out _ _).mono ?_; rintro e w4 ⟨rfl, q4⟩))
          all_goals
            go_wp2_with fail
            go_meet
            case rel => exact ⟨rfl, (b6l (by assumption)).below⟩
        case rest =>
        obtain ⟨rfl, hb⟩ := hcut
        go_wp2_with fail
        go_ret
        exact ⟨rfl, hb⟩
      · rw [hfj]
        have hCn : ¬ (C : Int) = 0 := by omega
        have hj0 : (0 : Int) ≤ (j : Int) := by omega
        have hj1 : (j : Int) ≤ 90 := by omega
        have hjq : (j : Int) < (q : Int) := by omega
        have hwr : IntKind.i64.wrap ((j : Int) + 1 - 1) = (j : Int) := by rw [IntKind.wrap_i64]; omega
        have hwr' : IntKind.i64.wrap (j : Int) = (j : Int) := by rw [IntKind.wrap_i64]; omega
        have HS2 : Hid (LS w [(bu, #[.int .i64 (k j), .int .i64 (m j), .string (z j)], 31), (bc, #[.int .i64 1, .int .i64 (C : Int), .string nul], 31), (bm, #[.int .i64 1, .int .i64 ((j : Int) + 1), .string nul], 31), (bb, #[.int .i64 6, .int .i64 0, .string nul, .int .i64 1, .int .i64 1, .bool false, .bool false, .int .i64 1, .int .i64 (q : Int), .bool false, .bool false, .slice none 0 0], 28), (b0, #[.int .i64 k', .int .i64 n', .string s'], 31), (g2, CUR, 40)] wc) := hs2
        clear hs2 hfj
        rcases HV.out with h | ⟨g, o, rfl, hg, h3⟩
        · omega
        obtain ⟨⟨a0, a1, a2, a3, a4, a5, a6, a7, a8, a9, a10, a11⟩, -⟩ := fm.cells12 (HS2.out.blks (bb, #[.int .i64 6, .int .i64 0, .string nul, .int .i64 1, .int .i64 1, .bool false, .bool false, .int .i64 1, .int .i64 (q : Int), .bool false, .bool false, .slice none 0 0], 28) (by simp))
        go_wp2_with fail
        clear a0 a1 a2 a3 a4 a5 a6 a7 a8 a9 a10 a11
        have HK1 : Hid (LS w [(wc.heap.size, #[.int .i64 6, .int .i64 0, .string nul, .int .i64 1, .int .i64 1, .bool false, .bool false, .int .i64 1, .int .i64 (q : Int), .bool false, .bool false, .slice none 0 0, .int .i64 1, .int .i64 ((j : Int) + 1), .string nul, .int .i64 0, .int .i64 0, .bool false, .bool false, .int .i64 0, .int .i64 0, .bool false, .bool false, .slice none 0 0, .int .i64 1, .int .i64 1, .string nul, .int .i64 0, .int .i64 0, .bool false, .bool false, .int .i64 0, .int .i64 0, .bool false, .bool false, .slice none 0 0], 28), (bu, #[.int .i64 (k j), .int .i64 (m j), .string (z j)], 31), (bc, #[.int .i64 1, .int .i64 (C : Int), .string nul], 31), (bm, #[.int .i64 1, .int .i64 ((j : Int) + 1), .string nul], 31), (bb, #[.int .i64 6, .int .i64 0, .string nul, .int .i64 1, .int .i64 1, .bool false, .bool false, .int .i64 1, .int .i64 (q : Int), .bool false, .bool false, .slice none 0 0], 28), (b0, #[.int .i64 k', .int .i64 n', .string s'], 31), (g2, CUR, 40)] (wc.alloc (.cells #[.int .i64 6, .int .i64 0, .string nul, .int .i64 1, .int .i64 1, .bool false, .bool false, .int .i64 1, .int .i64 (q : Int), .bool false, .bool false, .slice none 0 0, .int .i64 1, .int .i64 ((j : Int) + 1), .string nul, .int .i64 0, .int .i64 0, .bool false, .bool false, .int .i64 0, .int .i64 0, .bool false, .bool false, .slice none 0 0, .int .i64 1, .int .i64 1, .string nul, .int .i64 0, .int .i64 0, .bool false, .bool false, .int .i64 0, .int .i64 0, .bool false, .bool false, .slice none 0 0] 28))) := HS2.out.alloc _ _
        refine (H15.out _ _ _ _ _).mono ?_
        rintro e x1 ⟨rfl, hb⟩
        have HK2 : Hid (LS w [(wc.heap.size, #[.int .i64 6, .int .i64 0, .string nul, .int .i64 1, .int .i64 1, .bool false, .bool false, .int .i64 1, .int .i64 (q : Int), .bool false, .bool false, .slice none 0 0, .int .i64 1, .int .i64 ((j : Int) + 1), .string nul, .int .i64 0, .int .i64 0, .bool false, .bool false, .int .i64 0, .int .i64 0, .bool false, .bool false, .slice none 0 0, .int .i64 1, .int .i64 1, .string nul, .int .i64 0, .int .i64 0, .bool false, .bool false, .int .i64 0, .int .i64 0, .bool false, .bool false, .slice none 0 0], 28), (bu, #[.int .i64 (k j), .int .i64 (m j), .string (z j)], 31), (bc, #[.int .i64 1, .int .i64 (C : Int), .string nul], 31), (bm, #[.int .i64 1, .int .i64 ((j : Int) + 1), .string nul], 31), (bb, #[.int .i64 6, .int .i64 0, .string nul, .int .i64 1, .int .i64 1, .bool false, .bool false, .int .i64 1, .int .i64 (q : Int), .bool false, .bool false, .slice none 0 0], 28), (b0, #[.int .i64 k', .int .i64 n', .string s'], 31), (g2, CUR, 40)] x1) := HK1.out.next hb
        clear hb HK1 HS2
        go_wp2_with fail
        refine (HIdx.out j hj _ _ HK2.out.below (HK2.out.blks (wc.heap.size, #[.int .i64 6, .int .i64 0, .string nul, .int .i64 1, .int .i64 1, .bool false, .bool false, .int .i64 1, .int .i64 (q : Int), .bool false, .bool false, .slice none 0 0, .int .i64 1, .int .i64 ((j : Int) + 1), .string nul, .int .i64 0, .int .i64 0, .bool false, .bool false, .int .i64 0, .int .i64 0, .bool false, .bool false, .slice none 0 0, .int .i64 1, .int .i64 1, .string nul, .int .i64 0, .int .i64 0, .bool false, .bool false, .int .i64 0, .int .i64 0, .bool false, .bool false, .slice none 0 0], 28) (by simp)) (HK2.out.blks (g2, CUR, 40) (by simp))).mono ?_
        rintro e x2 ⟨rfl, hb⟩
        have HK3 : Hid (LS w [(bu, #[.int .i64 (k j), .int .i64 (m j), .string (z j)], 31), (bc, #[.int .i64 1, .int .i64 (C : Int), .string nul], 31), (bm, #[.int .i64 1, .int .i64 ((j : Int) + 1), .string nul], 31), (bb, #[.int .i64 6, .int .i64 0, .string nul, .int .i64 1, .int .i64 1, .bool false, .bool false, .int .i64 1, .int .i64 (q : Int), .bool false, .bool false, .slice none 0 0], 28), (b0, #[.int .i64 k', .int .i64 n', .string s'], 31), (g2, CUR, 40)] x2) := (HK2.out.next hb).sub (by simp)
        clear hb HK2
        have HK4 : Hid (LS w [(x2.heap.size, #[.int .i64 (k j), .int .i64 (m j), .string (z j)], 31), (bu, #[.int .i64 (k j), .int .i64 (m j), .string (z j)], 31), (bc, #[.int .i64 1, .int .i64 (C : Int), .string nul], 31), (bm, #[.int .i64 1, .int .i64 ((j : Int) + 1), .string nul], 31), (bb, #[.int .i64 6, .int .i64 0, .string nul, .int .i64 1, .int .i64 1, .bool false, .bool false, .int .i64 1, .int .i64 (q : Int), .bool false, .bool false, .slice none 0 0], 28), (b0, #[.int .i64 k', .int .i64 n', .string s'], 31), (g2, CUR, 40)] (x2.alloc (.cells #[.int .i64 (k j), .int .i64 (m j), .string (z j)] 31))) := HK3.out.alloc _ _
        clear HK3
        have bo : ∀ wx, LS w [(x2.heap.size, #[.int .i64 (k j), .int .i64 (m j), .string (z j)], 31), (bu, #[.int .i64 (k j), .int .i64 (m j), .string (z j)], 31), (bc, #[.int .i64 1, .int .i64 (C : Int), .string nul], 31), (bm, #[.int .i64 1, .int .i64 ((j : Int) + 1), .string nul], 31), (bb, #[.int .i64 6, .int .i64 0, .string nul, .int .i64 1, .int .i64 1, .bool false, .bool false, .int .i64 1, .int .i64 (q : Int), .bool false, .bool false, .slice none 0 0], 28), (b0, #[.int .i64 k', .int .i64 n', .string s'], 31), (g2, CUR, 40)] wx → B12 w g o j bm bu x2.heap.size (k j) (m j) (z j) [(x2.heap.size, #[.int .i64 (k j), .int .i64 (m j), .string (z j)], 31), (bu, #[.int .i64 (k j), .int .i64 (m j), .string (z j)], 31), (bc, #[.int .i64 1, .int .i64 (C : Int), .string nul], 31), (bm, #[.int .i64 1, .int .i64 ((j : Int) + 1), .string nul], 31), (bb, #[.int .i64 6, .int .i64 0, .string nul, .int .i64 1, .int .i64 1, .bool false, .bool false, .int .i64 1, .int .i64 (q : Int), .bool false, .bool false, .slice none 0 0], 28), (b0, #[.int .i64 k', .int .i64 n', .string s'], 31), (g2, CUR, 40)] wx := fun wx h => by
          obtain ⟨q0, q1, q2⟩ := h3 j hj
          obtain ⟨c0, c1, c2⟩ := cells3v (h.blks (bm, #[.int .i64 1, .int .i64 ((j : Int) + 1), .string nul], 31) (by simp))
          obtain ⟨d0, d1, d2⟩ := cells3v (h.blks (bu, #[.int .i64 (k j), .int .i64 (m j), .string (z j)], 31) (by simp))
          obtain ⟨e0, e1, e2⟩ := cells3v (h.blks (x2.heap.size, #[.int .i64 (k j), .int .i64 (m j), .string (z j)], 31) (by simp))
          exact ⟨by rw [h.below.cell (p := ⟨g, _, none⟩) hg]; exact q0, by rw [h.below.cell (p := ⟨g, _, none⟩) hg]; exact q1, by rw [h.below.cell (p := ⟨g, _, none⟩) hg]; exact q2, c0, c1, c2, d0, d1, d2, e0, e1, e2, h⟩
        have h0d := bo _ (show LS w [(x2.heap.size, #[.int .i64 (k j), .int .i64 (m j), .string (z j)], 31), (bu, #[.int .i64 (k j), .int .i64 (m j), .string (z j)], 31), (bc, #[.int .i64 1, .int .i64 (C : Int), .string nul], 31), (bm, #[.int .i64 1, .int .i64 ((j : Int) + 1), .string nul], 31), (bb, #[.int .i64 6, .int .i64 0, .string nul, .int .i64 1, .int .i64 1, .bool false, .bool false, .int .i64 1, .int .i64 (q : Int), .bool false, .bool false, .slice none 0 0], 28), (b0, #[.int .i64 k', .int .i64 n', .string s'], 31), (g2, CUR, 40)] (x2.alloc (.cells #[.int .i64 (k j), .int .i64 (m j), .string (z j)] 31)).drew from ⟨HK4.out.blks, HK4.out.below.drew⟩)
        obtain ⟨y0, y1, y2, y3, y4, y5, y6, y7, y8, y9, y10, y11, -⟩ := bo _ HK4.out
        clear h3
        go_upto_region 32 with fail
        go_cut [4] (fun s4 wx => s4 = .bool true ∧ Below w.heap.size w wx)
        case first =>
          have e31 : ∀ (a b : Int) (c : ByteArray) (W : World), (binOp BinOp.eql 31 (VV a b c) (VV a b c)).run Tryz.prog W = .ok (.bool true) W := eql31
          go_region_held3 (fun wx => B12 w g o j bm bu x2.heap.size (k j) (m j) (z j) [(x2.heap.size, #[.int .i64 (k j), .int .i64 (m j), .string (z j)], 31), (bu, #[.int .i64 (k j), .int .i64 (m j), .string (z j)], 31), (bc, #[.int .i64 1, .int .i64 (C : Int), .string nul], 31), (bm, #[.int .i64 1, .int .i64 ((j : Int) + 1), .string nul], 31), (bb, #[.int .i64 6, .int .i64 0, .string nul, .int .i64 1, .int .i64 1, .bool false, .bool false, .int .i64 1, .int .i64 (q : Int), .bool false, .bool false, .slice none 0 0], 28), (b0, #[.int .i64 k', .int .i64 n', .string s'], 31), (g2, CUR, 40)] wx) (first | exact h0d | exact bo _ ((b12l (by assumption)).next (by assumption))) (first | (go_at_call 10; refine (H10.out _ _).mono ?_; rintro e w4 ⟨rfl, q4⟩))
          all_goals
            go_wp2_with fail
            go_meet
            case rel => exact ⟨rfl, (b12l (by assumption)).below⟩
        case rest =>
        obtain ⟨rfl, hb⟩ := hcut
        go_wp2_with fail
        go_ret
        exact ⟨rfl, hb⟩
end Go.Proofs.YtoebppmagkijjaaGreatDoor.ev
