
/- Package pick: whether a row meets a want, as the closures ask it. Conditions: as each theorem says. -/
import Derived.Test.YtjbdpcnebilmbaaGreatDoorPa
import Derived.Laws.StructEq
import Derived.Deep.RegionHeld3
namespace Go.Proofs.YtjbdpcnebilmbaaGreatDoor.so
open Go.RowKit Go.Sort Go.Shelf
theorem eqInV (k n : Int) (s : ByteArray) (k' n' : Int) (s' : ByteArray) (W : World) : (Op.equalIn 10000 38 (V k n s) (V k' n' s')).run Tryz.prog W = .ok (k == k' && n == n' && s.toList == s'.toList) W := by
  have hS : Tryz.prog.underlying 38 = some (.struct (Tryz.prog.fieldsOf 38)) := by kernel_rfl
  have hp : Tryz.prog.stoodInHeld 38 = false := by kernel_rfl
  rw [run_equalIn_struct W 9999 38 _ _ hS hp]
  simp only [Program.fieldsOf, Tryz.underlying38]
  by_cases h1 : k = k' <;> by_cases h2 : n = n' <;> by_cases h3 : s.toList = s'.toList <;> simp [Op.eqFields, go_sem, h1, h2, h3]
theorem eqlV (k n : Int) (s : ByteArray) (k' n' : Int) (s' : ByteArray) (W : World) : (binOp BinOp.eql 38 (V k n s) (V k' n' s')).run Tryz.prog W = .ok (.bool (k == k' && n == n' && s.toList == s'.toList)) W := by
  rw [run_eql_struct, eqInV]; rfl
theorem guardV : Tryz.prog.eqGuardType Tryz.prog.depth 38 = false := by kernel_rfl
theorem twoV_is (x : Vl) (o : Int) (y : Vl) : ((twoV x o y).k == 3 && (twoV x o y).n == 1 && (twoV x o y).s.toList == nul.toList) = meet x o y := by
  rw [twoV_meet]
  unfold twoV
  by_cases h : x.k = 4
  · rw [if_pos h]; simp [meet, h]
  · rw [if_neg h]
    by_cases h' : y.k = 4
    · rw [if_pos h']; simp [meet, h']
    · rw [if_neg h']; simp
/-- What metBy's closure reads. -/
abbrev MB (W0 : World) (b0 b1 b2 g a : Nat) (c o : Int) (y x : Vl) (sv : Value) (wx : World) : Prop :=
  wx.cell? ⟨b0, 0, none⟩ = some (.int .i64 c) ∧ wx.cell? ⟨b0, 1, none⟩ = some (.int .i64 o) ∧ wx.cell? ⟨b0, 2, none⟩ = some (.int .i64 y.k) ∧ wx.cell? ⟨b0, 3, none⟩ = some (.int .i64 y.n) ∧ wx.cell? ⟨b0, 4, none⟩ = some (.string y.s) ∧
  wx.cell? ⟨b1, 0, none⟩ = some sv ∧ wx.cell? ⟨g, a, none⟩ = some (.int .i64 x.k) ∧ wx.cell? ⟨g, a + 1, none⟩ = some (.int .i64 x.n) ∧ wx.cell? ⟨g, a + 2, none⟩ = some (.string x.s) ∧
  wx.cell? ⟨b2, 0, none⟩ = some (.int .i64 3) ∧ wx.cell? ⟨b2, 1, none⟩ = some (.int .i64 1) ∧ wx.cell? ⟨b2, 2, none⟩ = some (.string nul) ∧ Bw W0 wx
theorem mb_bw {W0 : World} {b0 b1 b2 g a : Nat} {c o : Int} {y x : Vl} {sv : Value} {wx : World} (h : MB W0 b0 b1 b2 g a c o y x sv wx) : Bw W0 wx := h.2.2.2.2.2.2.2.2.2.2.2.2
/-- A value in a block of its own. -/
abbrev CV (w : World) (b : Nat) (k n : Int) (s : ByteArray) : Prop := w.heap[b]? = some (.cells #[.int .i64 k, .int .i64 n, .string s] 38 (0, 0))
theorem CV.next {w w' : World} {b : Nat} {k n : Int} {s : ByteArray} (h : CV w b k n s) (hb : Bw w w') : CV w' b k n s := (hb.block _ (Array.getElem?_eq_some_iff.1 h).1).trans h
theorem Bx.next {w w' : World} {b : Nat} {v : Value} (h : Bx w b v) (hb : Bw w w') : Bx w' b v := ⟨(hb.cell (p := ⟨b, 0, none⟩) h.2).trans h.1, Nat.lt_of_lt_of_le h.2 hb.size⟩
theorem CV.cells {w : World} {b : Nat} {k n : Int} {s : ByteArray} (h : CV w b k n s) : w.cell? ⟨b, 0, none⟩ = some (.int .i64 k) ∧ w.cell? ⟨b, 1, none⟩ = some (.int .i64 n) ∧ w.cell? ⟨b, 2, none⟩ = some (.string s) := by simp [World.cell?, h]
set_option maxRecDepth 100000 in
set_option maxHeartbeats 4000000 in
theorem met1_any (p : Option Addr) (l cp : Nat) (r : Nat → Vl) (u : Wt) (b1 b2 : Nat) (w : World) (hR : VM w p l r) (h1 : Bx w b1 (.slice p l cp)) (h2 : CV w b2 3 1 nul) (hc : 0 ≤ u.c ∧ u.c < (l : Int)) (ho : 1 ≤ u.o ∧ u.o ≤ 6) :
    Calls Tryz.prog 33 #[WV u.c u.o u.v.k u.v.n u.v.s, .pointer (some ⟨b1, 0, none⟩), .pointer (some ⟨b2, 0, none⟩)] w fun e w' => e = .returned (.bool (meet (r u.c.toNat) u.o u.v)) ∧ Bw w w' := by
  obtain ⟨x, hx⟩ : ∃ x, r u.c.toNat = x := ⟨_, rfl⟩
  have HT := two_any x u.o u.v ho.1 ho.2
  have HE := twoV_is x u.o u.v
  obtain ⟨uc, uo, y⟩ := u
  dsimp only at hx HT HE hc ho ⊢
  rw [hx]
  obtain ⟨t, rfl⟩ : ∃ t : Nat, uc = (t : Int) := ⟨uc.toNat, by omega⟩
  have ht : (t : Int).toNat = t := by simp
  rw [ht] at hx
  obtain ⟨hc0, hcl⟩ := hc
  obtain ⟨B, hB⟩ : ∃ B, meet x uo y = B := ⟨_, rfl⟩
  rw [hB] at HE ⊢
  clear hB ho
  obtain ⟨⟨tk, tn, ts⟩, htv⟩ : ∃ z, twoV x uo y = z := ⟨_, rfl⟩
  rw [htv] at HT HE
  clear htv
  dsimp only at HT HE
  have hq := fun W => eqlV tk tn ts 3 1 nul W
  rw [HE] at hq
  have hgv := guardV
  clear HE
  obtain ⟨W0, hW0⟩ : ∃ W, w.alloc (.cells #[.int .i64 (t : Int), .int .i64 uo, .int .i64 y.k, .int .i64 y.n, .string y.s] 40) = W := ⟨_, rfl⟩
  have hB0 : Bw w W0 := by rw [← hW0]; exact Bw.al _ _
  rcases hR.next hB0 with h | ⟨g, o, rfl, hg, h3⟩
  · omega
  obtain ⟨z0, z1, z2⟩ := h3 t (by omega)
  rw [hx] at z0 z1 z2
  obtain ⟨c1, c1'⟩ := h1.next hB0
  have h2' := h2.next hB0
  obtain ⟨v0, v1, v2⟩ := h2'.cells
  have hb2 : b2 < W0.heap.size := (Array.getElem?_eq_some_iff.1 h2').1
  have hs0 : w.heap.size < W0.heap.size := by rw [← hW0]; simp
  have n0 : W0.cell? ⟨w.heap.size, 0, none⟩ = some (.int .i64 (t : Int)) := by rw [← hW0]; simp
  have n1 : W0.cell? ⟨w.heap.size, 1, none⟩ = some (.int .i64 uo) := by rw [← hW0]; simp
  have n2 : W0.cell? ⟨w.heap.size, 2, none⟩ = some (.int .i64 y.k) := by rw [← hW0]; simp
  have n3 : W0.cell? ⟨w.heap.size, 3, none⟩ = some (.int .i64 y.n) := by rw [← hW0]; simp
  have n4 : W0.cell? ⟨w.heap.size, 4, none⟩ = some (.string y.s) := by rw [← hW0]; simp
  have sof : Hid (∀ wx, Bw W0 wx → MB W0 w.heap.size b1 b2 g (o + t * 3) (t : Int) uo y x (.slice (some ⟨g, o, none⟩) l cp) wx) := fun wx hb =>
    ⟨(hb.cell (p := ⟨w.heap.size, _, none⟩) hs0).trans n0, (hb.cell (p := ⟨w.heap.size, _, none⟩) hs0).trans n1, (hb.cell (p := ⟨w.heap.size, _, none⟩) hs0).trans n2, (hb.cell (p := ⟨w.heap.size, _, none⟩) hs0).trans n3, (hb.cell (p := ⟨w.heap.size, _, none⟩) hs0).trans n4,
     (hb.cell (p := ⟨b1, _, none⟩) c1').trans c1, (hb.cell (p := ⟨g, _, none⟩) hg).trans z0, (hb.cell (p := ⟨g, _, none⟩) hg).trans z1, (hb.cell (p := ⟨g, _, none⟩) hg).trans z2, (hb.cell (p := ⟨b2, _, none⟩) hb2).trans v0, (hb.cell (p := ⟨b2, _, none⟩) hb2).trans v1, (hb.cell (p := ⟨b2, _, none⟩) hb2).trans v2, hb⟩
  have HB0 : Hid (Bw w W0) := hB0
  clear hB0 h1 h2 h2' z0 z1 z2 c1 c1' v0 v1 v2 hb2 n0 n1 n2 n3 n4 h3 hg hR hs0 hx
  obtain ⟨xk, xn, xs⟩ := x
  obtain ⟨yk, yn, ys⟩ := y
  dsimp only at sof HT hW0 ⊢
  obtain ⟨b0, hb0⟩ : ∃ b, w.heap.size = b := ⟨_, rfl⟩
  rw [hb0] at sof
  have h0d := sof.out W0.drew ((Below.refl _ _).drew)
  obtain ⟨y0, y1, y2, y3, y4, y5, y6, y7, y8, y9, y10, y11, -⟩ := sof.out W0 (Below.refl _ _)
  go_enter Tryz.func33, Tryz.ntmps33
  go_upto_region 1 with fail
  go_region_held3 (fun wx => MB W0 b0 b1 b2 g (o + t * 3) (t : Int) uo ⟨yk, yn, ys⟩ ⟨xk, xn, xs⟩ (.slice (some ⟨g, o, none⟩) l cp) wx) (first | exact h0d | exact sof.out _ ((mb_bw (by assumption)).tr (by assumption))) (first | (go_at_call 34; refine (HT _).mono ?_; rintro e w3 ⟨rfl, q3⟩))
  have HB3 : Hid (Bw w w3) := HB0.out.tr ((mb_bw h0d).tr q3)
  clear h0d y0 y1 y2 y3 y4 y5 y6 y7 y8 y9 y10 y11 sof HT
  go_wp2_with fail
  go_ret
  exact ⟨rfl, HB3.out⟩
end Go.Proofs.YtjbdpcnebilmbaaGreatDoor.so
