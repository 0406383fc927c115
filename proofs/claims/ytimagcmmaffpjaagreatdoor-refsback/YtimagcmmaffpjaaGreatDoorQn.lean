/- Moved, for every node. Conditions: the package variables as the program's text lays them. -/
import Derived.Test.YtimagcmmaffpjaaGreatDoorQl
import Derived.Deep.RegionHeld3
namespace Go.Proofs.YtimagcmmaffpjaaGreatDoor.fm
open Go.RowKit
theorem cell_set12 {w : World} {b d : Nat} (hne : b ≠ d) {u0 u1 u2 u3 u4 u5 u6 u7 u8 u9 u10 u11 : Value} (o : Nat) : ((((((((((((w.setCell ⟨d, 0, none⟩ u0).setCell ⟨d, 1, none⟩ u1).setCell ⟨d, 2, none⟩ u2).setCell ⟨d, 3, none⟩ u3).setCell ⟨d, 4, none⟩ u4).setCell ⟨d, 5, none⟩ u5).setCell ⟨d, 6, none⟩ u6).setCell ⟨d, 7, none⟩ u7).setCell ⟨d, 8, none⟩ u8).setCell ⟨d, 9, none⟩ u9).setCell ⟨d, 10, none⟩ u10).setCell ⟨d, 11, none⟩ u11).cell? ⟨b, o, none⟩ = w.cell? ⟨b, o, none⟩ := by
  refine World.cell?_of_block ?_
  rw [Below.heap_setCell _ _ _ _ hne, Below.heap_setCell _ _ _ _ hne, Below.heap_setCell _ _ _ _ hne, Below.heap_setCell _ _ _ _ hne, Below.heap_setCell _ _ _ _ hne, Below.heap_setCell _ _ _ _ hne, Below.heap_setCell _ _ _ _ hne, Below.heap_setCell _ _ _ _ hne, Below.heap_setCell _ _ _ _ hne, Below.heap_setCell _ _ _ _ hne, Below.heap_setCell _ _ _ _ hne, Below.heap_setCell _ _ _ _ hne]
/-- A node that is answered, laid open. -/
abbrev OutNd (w : World) (t : T) (e : Ending) (w' : World) : Prop := ∃ (k n : Int) (s : ByteArray) (r u : Rf) (p : Option Addr) (m c : Nat), e = .returned (NV k n s r u (.slice p m c)) ∧ Nd w' (Own w w') (NV k n s r u (.slice p m c)) t ∧ Below w.heap.size w w'
theorem outNd_of {w : World} {t : T} {e : Ending} {w' : World} (h : ∃ v', e = .returned v' ∧ Nd w' (Own w w') v' t ∧ Below w.heap.size w w') : OutNd w t e w' := by
  obtain ⟨v', h1, h2, h3⟩ := h
  cases h2 with
  | mk hk hl hs => exact ⟨_, _, _, _, _, _, _, _, h1, .mk hk hl hs, h3⟩
set_option maxRecDepth 100000 in
set_option maxHeartbeats 4000000 in
theorem moved_no (cols rows : Int) (w : World) (hE : EnvW w) {P : Nat → Prop} (hP : ∀ b, P b → b < w.heap.size) {k n : Int} {s : ByteArray} {r t : Rf} {p : Option Addr} {q c : Nat} {T0 : T} (hN : Nd w P (NV k n s r t (.slice p q c)) T0) (hO : Ok T0) (h : ¬ Ckd T0) :
    Calls Tryz.prog 5 #[NV k n s r t (.slice p q c), .int .i64 cols, .int .i64 rows] w fun e w' => (∃ a : Int, e = .returned (.tuple #[NV 0 0 nul .z .z (.slice none 0 0), .iface 40 (.int .i64 a)])) ∧ Below w.heap.size w w' := by
  have hb0 : Below w.heap.size w ((((w.alloc (.cells (N12 k n s r t (.slice p q c)) 28)).alloc (.cells #[.int .i64 cols] 3)).alloc (.cells #[.int .i64 rows] 3)).alloc (.cells NZ 28)) := ((((Below.refl _ _).alloc (Nat.le_refl _) _).alloc (by simp) _).alloc (by simp; omega) _).alloc (by simp; omega) _
  have hN0 := hN.mono (fun b h => hb0.block b (hP b h)) (fun _ h => h)
  obtain ⟨⟨hA, hC1⟩, hC2, hD⟩ := adr.four w (.cells (N12 k n s r t (.slice p q c)) 28) (.cells #[.int .i64 cols] 3) (.cells #[.int .i64 rows] 3) (.cells NZ 28)
  obtain ⟨⟨a0, a1, a2, a3, a4, a5, a6, a7, a8, a9, a10, a11⟩, af⟩ := cells12 hA
  have HC := check_no ((((w.alloc (.cells (N12 k n s r t (.slice p q c)) 28)).alloc (.cells #[.int .i64 cols] 3)).alloc (.cells #[.int .i64 rows] 3)).alloc (.cells NZ 28)) (hE.next hb0) (P := P) (fun b h => Nat.lt_of_lt_of_le (hP b h) hb0.size) hN0 hO h
  have HD : Hid (∀ w1, Below (((((w.alloc (.cells (N12 k n s r t (.slice p q c)) 28)).alloc (.cells #[.int .i64 cols] 3)).alloc (.cells #[.int .i64 rows] 3)).alloc (.cells NZ 28))).heap.size ((((w.alloc (.cells (N12 k n s r t (.slice p q c)) 28)).alloc (.cells #[.int .i64 cols] 3)).alloc (.cells #[.int .i64 rows] 3)).alloc (.cells NZ 28)) w1 → w1.heap[w.heap.size + 1 + 1 + 1]? = some (.cells NZ 28 (0, 0))) := fun w1 hb => (hb.block _ (lt_blk hD)).trans hD
  clear hN hO hP hE h hN0 hA hC1 hC2 hD
  go_enter Tryz.func5, Tryz.ntmps5
  go_wp2_with fail
  refine HC.mono ?_
  rintro e w1 ⟨⟨a, rfl⟩, hb1⟩
  have hd := HD.out w1 hb1
  have HB : Hid (Below w.heap.size w w1) := bnext hb0 hb1 hb0.size
  obtain ⟨⟨z0, z1, z2, z3, z4, z5, z6, z7, z8, z9, z10, z11⟩, zf⟩ := cells12 hd
  clear a0 a1 a2 a3 a4 a5 a6 a7 a8 a9 a10 a11 af HD hb1 hb0
  go_wp2_with fail
  refine fin12 hd (Q := bodyPost _ _ _ _ _) ?_
  clear z0 z1 z2 z3 z4 z5 z6 z7 z8 z9 z10 z11 zf hd
  intro w2 hq2 hk2
  obtain ⟨⟨b0, b1, b2, b3, b4, b5, b6, b7, b8, b9, b10, b11⟩, bf'⟩ := cells12 hq2
  refine bodyPost_ret (v := .tuple #[NV 0 0 nul .z .z (.slice none 0 0), .iface 40 (.int .i64 a)]) (by simp [results, Tryz.results5, go_sem, b0, b1, b2, b3, b4, b5, b6, b7, b8, b9, b10, b11]) rfl ⟨⟨a, rfl⟩, ?_⟩
  exact HB.out.trans (hk2.toBelow HB.out.size (fun n hn e => by omega))
set_option maxRecDepth 100000 in
set_option maxHeartbeats 8000000 in
theorem moved_yes (cols rows : Int) (w : World) (hc : -9223372036854775808 ≤ cols ∧ cols ≤ 9223372036854775807) (hr : -9223372036854775808 ≤ rows ∧ rows ≤ 9223372036854775807) (hE : EnvW w) {P : Nat → Prop} (hP : ∀ b, P b → b < w.heap.size) {k n : Int} {s : ByteArray} {r t : Rf} {p : Option Addr} {q c : Nat} {T0 : T} (hN : Nd w P (NV k n s r t (.slice p q c)) T0) (hO : Ok T0) (h : Ckd T0) (hF : Fits (fun _ => True) T0) (hB : Bd 200 T0) :
    Calls Tryz.prog 5 #[NV k n s r t (.slice p q c), .int .i64 cols, .int .i64 rows] w fun e w' => ∃ (k2 n2 : Int) (s2 : ByteArray) (r2 t2 : Rf) (p2 : Option Addr) (m2 e2 : Nat), e = .returned (.tuple #[NV k2 n2 s2 r2 t2 (.slice p2 m2 e2), .nilIface]) ∧ Nd w' (Own w w') (NV k2 n2 s2 r2 t2 (.slice p2 m2 e2))  (chg (Cw (mvR cols rows)) T0) ∧ Below w.heap.size w w' := by
  have hb0 : Below w.heap.size w ((((w.alloc (.cells (N12 k n s r t (.slice p q c)) 28)).alloc (.cells #[.int .i64 cols] 3)).alloc (.cells #[.int .i64 rows] 3)).alloc (.cells NZ 28)) := ((((Below.refl _ _).alloc (Nat.le_refl _) _).alloc (by simp) _).alloc (by simp; omega) _).alloc (by simp; omega) _
  have hN0 := hN.mono (fun b h => hb0.block b (hP b h)) (fun _ h => h)
  obtain ⟨⟨hA, hC1⟩, hC2, hD⟩ := adr.four w (.cells (N12 k n s r t (.slice p q c)) 28) (.cells #[.int .i64 cols] 3) (.cells #[.int .i64 rows] 3) (.cells NZ 28)
  obtain ⟨⟨a0, a1, a2, a3, a4, a5, a6, a7, a8, a9, a10, a11⟩, af⟩ := cells12 hA
  have HC := check_yes ((((w.alloc (.cells (N12 k n s r t (.slice p q c)) 28)).alloc (.cells #[.int .i64 cols] 3)).alloc (.cells #[.int .i64 rows] 3)).alloc (.cells NZ 28)) (hE.next hb0) (P := P) (fun b h => Nat.lt_of_lt_of_le (hP b h) hb0.size) hN0 hO h
  have HD : Hid (∀ w1, Below (((((w.alloc (.cells (N12 k n s r t (.slice p q c)) 28)).alloc (.cells #[.int .i64 cols] 3)).alloc (.cells #[.int .i64 rows] 3)).alloc (.cells NZ 28))).heap.size ((((w.alloc (.cells (N12 k n s r t (.slice p q c)) 28)).alloc (.cells #[.int .i64 cols] 3)).alloc (.cells #[.int .i64 rows] 3)).alloc (.cells NZ 28)) w1 → w1.heap[w.heap.size + 1 + 1 + 1]? = some (.cells NZ 28 (0, 0))) := fun w1 hb => (hb.block _ (lt_blk hD)).trans hD
  have HS12 : Hid (∀ wx, Below (((((w.alloc (.cells (N12 k n s r t (.slice p q c)) 28)).alloc (.cells #[.int .i64 cols] 3)).alloc (.cells #[.int .i64 rows] 3)).alloc (.cells NZ 28))).heap.size ((((w.alloc (.cells (N12 k n s r t (.slice p q c)) 28)).alloc (.cells #[.int .i64 cols] 3)).alloc (.cells #[.int .i64 rows] 3)).alloc (.cells NZ 28)) wx → wx.cell? ⟨w.heap.size, 0, none⟩ = some (.int .i64 k) ∧ wx.cell? ⟨w.heap.size, 1, none⟩ = some (.int .i64 n) ∧ wx.cell? ⟨w.heap.size, 2, none⟩ = some (.string s) ∧ wx.cell? ⟨w.heap.size, 3, none⟩ = some (.int .i64 r.c) ∧ wx.cell? ⟨w.heap.size, 4, none⟩ = some (.int .i64 r.r) ∧ wx.cell? ⟨w.heap.size, 5, none⟩ = some (.bool r.fc) ∧ wx.cell? ⟨w.heap.size, 6, none⟩ = some (.bool r.fr) ∧ wx.cell? ⟨w.heap.size, 7, none⟩ = some (.int .i64 t.c) ∧ wx.cell? ⟨w.heap.size, 8, none⟩ = some (.int .i64 t.r) ∧ wx.cell? ⟨w.heap.size, 9, none⟩ = some (.bool t.fc) ∧ wx.cell? ⟨w.heap.size, 10, none⟩ = some (.bool t.fr) ∧ wx.cell? ⟨w.heap.size, 11, none⟩ = some (.slice p q c)) := fun wx hb => by
    obtain ⟨⟨a0, a1, a2, a3, a4, a5, a6, a7, a8, a9, a10, a11⟩, -⟩ := cells12 ((hb.block _ (lt_blk hA)).trans hA)
    exact ⟨a0, a1, a2, a3, a4, a5, a6, a7, a8, a9, a10, a11⟩
  have HCH : Hid (∀ wx bf, Below (((((w.alloc (.cells (N12 k n s r t (.slice p q c)) 28)).alloc (.cells #[.int .i64 cols] 3)).alloc (.cells #[.int .i64 rows] 3)).alloc (.cells NZ 28))).heap.size ((((w.alloc (.cells (N12 k n s r t (.slice p q c)) 28)).alloc (.cells #[.int .i64 cols] 3)).alloc (.cells #[.int .i64 rows] 3)).alloc (.cells NZ 28)) wx → wx.cell? ⟨bf, 0, none⟩ = some (fv 15 #[ptr (w.heap.size + 1), ptr (w.heap.size + 1 + 1)]) → Calls Tryz.prog 13 #[NV k n s r t (.slice p q c), .agg #[fv 15 #[ptr (w.heap.size + 1), ptr (w.heap.size + 1 + 1)], fv 26 #[ptr bf]]] wx (OutNd wx (chg (Cw (mvR cols rows)) T0))) := fun wx bf hb hf =>
    (mv_core cols rows (w.heap.size + 1) (w.heap.size + 1 + 1) bf wx hc hr (by rw [cell_blk ((hb.block _ (lt_blk hC1)).trans hC1)]; rfl) (by rw [cell_blk ((hb.block _ (lt_blk hC2)).trans hC2)]; rfl) hf (hN0.mono (fun b h => hb.block b (Nat.lt_of_lt_of_le (hP b h) hb0.size)) (fun _ h => h)) hF hB).mono (fun _ _ h => outNd_of h)
  have HCO : Hid (∀ wx, Calls Tryz.prog 14 #[fv 15 #[ptr (w.heap.size + 1), ptr (w.heap.size + 1 + 1)]] wx fun e w' => ∃ bf, e = .returned (.agg #[fv 15 #[ptr (w.heap.size + 1), ptr (w.heap.size + 1 + 1)], fv 26 #[ptr bf]]) ∧ w'.cell? ⟨bf, 0, none⟩ = some (fv 15 #[ptr (w.heap.size + 1), ptr (w.heap.size + 1 + 1)]) ∧ Below wx.heap.size wx w') := fun wx => (corner_any 15 _ wx).mono (fun _ _ h => ⟨_, h⟩)
  have HW : Hid (w.heap.size + 4 = (((((w.alloc (.cells (N12 k n s r t (.slice p q c)) 28)).alloc (.cells #[.int .i64 cols] 3)).alloc (.cells #[.int .i64 rows] 3)).alloc (.cells NZ 28))).heap.size) := by unfold Hid; simp
  have hmf : ∀ (fn : Fn) (first cap : Array Value) (w : World), (Instr.makeFunc fn first cap).run Tryz.prog w = .ok (.func fn first cap) w := fun _ _ _ _ => rfl
  clear hN hO hP hE h hN0 hA hC1 hC2 hD hF hB hc hr
  go_enter Tryz.func5, Tryz.ntmps5
  go_wp2_with fail
  refine HC.mono ?_
  rintro e w1 ⟨rfl, hb1⟩
  have HB : Hid (Below w.heap.size w ((((w.alloc (.cells (N12 k n s r t (.slice p q c)) 28)).alloc (.cells #[.int .i64 cols] 3)).alloc (.cells #[.int .i64 rows] 3)).alloc (.cells NZ 28))) := hb0
  clear a0 a1 a2 a3 a4 a5 a6 a7 a8 a9 a10 a11 af hb0 HC
  go_wp2_with fail
  generalize hw0 : ((((w.alloc (.cells (N12 k n s r t (.slice p q c)) 28)).alloc (.cells #[.int .i64 cols] 3)).alloc (.cells #[.int .i64 rows] 3)).alloc (.cells NZ 28)) = wa at *
  clear hw0
  have hx1 : Below wa.heap.size wa w1.drew := hb1.drew
  have hne12 : w.heap.size ≠ w.heap.size + 1 + 1 + 1 := by omega
  go_region_held3 (fun wx => wx.cell? ⟨w.heap.size, 0, none⟩ = some (.int .i64 k) ∧ wx.cell? ⟨w.heap.size, 1, none⟩ = some (.int .i64 n) ∧ wx.cell? ⟨w.heap.size, 2, none⟩ = some (.string s) ∧ wx.cell? ⟨w.heap.size, 3, none⟩ = some (.int .i64 r.c) ∧ wx.cell? ⟨w.heap.size, 4, none⟩ = some (.int .i64 r.r) ∧ wx.cell? ⟨w.heap.size, 5, none⟩ = some (.bool r.fc) ∧ wx.cell? ⟨w.heap.size, 6, none⟩ = some (.bool r.fr) ∧ wx.cell? ⟨w.heap.size, 7, none⟩ = some (.int .i64 t.c) ∧ wx.cell? ⟨w.heap.size, 8, none⟩ = some (.int .i64 t.r) ∧ wx.cell? ⟨w.heap.size, 9, none⟩ = some (.bool t.fc) ∧ wx.cell? ⟨w.heap.size, 10, none⟩ = some (.bool t.fr) ∧ wx.cell? ⟨w.heap.size, 11, none⟩ = some (.slice p q c)) (first | with_reducible exact HS12.out _ hx1 | with_reducible exact HS12.out _ hx2 | with_reducible exact HS12.out _ hx3 | (simp only [cell_set12 hne12]; with_reducible exact HS12.out _ hx3)) (first | (go_at_call 14; with_reducible refine (HCO.out _).mono ?_; rintro e w2 ⟨bf, rfl, hcf, hb2⟩; have hx2 : Below wa.heap.size wa w2 := hx1.trans (hb2.mono hx1.size)) | (go_at_call 13; with_reducible refine (HCH.out _ _ hx2 hcf).mono ?_; rintro e w3 ⟨k2, n2, s2, r2, t2, p2, m2, e2, rfl, hN3, hb3⟩; have hx3 : Below wa.heap.size wa w3 := hx2.trans (hb3.mono hx2.size); have hd3 := HD.out w3 hx3; have ⟨⟨z0, z1, z2, z3, z4, z5, z6, z7, z8, z9, z10, z11⟩, zf⟩ := cells12 hd3))
  all_goals
    refine fin12 hd3 (Q := Exit.then _ _ _ _) ?_
    clear z0 z1 z2 z3 z4 z5 z6 z7 z8 z9 z10 z11 zf hd3
    intro w4 hq4 hk4
    obtain ⟨⟨b0, b1, b2, b3, b4, b5, b6, b7, b8, b9, b10, b11⟩, bf'⟩ := cells12 hq4
    go_wp2_with fail
    refine bodyPost_ret (v := .tuple #[NV k2 n2 s2 r2 t2 (.slice p2 m2 e2), .nilIface]) (by simp [results, Tryz.results5, go_sem, b0, b1, b2, b3, b4, b5, b6, b7, b8, b9, b10, b11]) rfl ⟨k2, n2, s2, r2, t2, p2, m2, e2, rfl, ?_, ?_⟩
    · have hw := HW.out
      refine hN3.mono (fun b hb => hk4.block b hb.2 (by have := hb.1; have := hx2.size; omega)) (fun b hb => ⟨by have := hb.1; have := hx2.size; have := HB.out.size; omega, Nat.lt_of_lt_of_le hb.2 hk4.size⟩)
    · have hw := HW.out
      have h3 : Below w.heap.size w w3 := HB.out.trans (hx3.mono HB.out.size)
      exact h3.trans (hk4.toBelow h3.size (fun n hn e => by omega))
end Go.Proofs.YtimagcmmaffpjaaGreatDoor.fm
/- Inserted and Deleted. Conditions: the package variables as the program's text lays them; Deleted: what is deleted was inserted. -/
namespace Go.Proofs.YtimagcmmaffpjaaGreatDoor.fm
open Go.RowKit
theorem two2 (w : World) (A B : Obj) : ((w.alloc A).alloc B).heap[w.heap.size]? = some A ∧ ((w.alloc A).alloc B).heap[w.heap.size + 1]? = some B := by
  refine ⟨?_, ?_⟩
  · rw [Below.heap_alloc _ _ _ (by simp), adr.heap_at _ _ _ rfl]
  · rw [adr.heap_at _ _ _ (by simp)]
set_option maxRecDepth 100000 in
set_option maxHeartbeats 8000000 in
theorem inserted_no (row : Bool) (at' many : Int) (w : World) (hE : EnvW w) {P : Nat → Prop} (hP : ∀ b, P b → b < w.heap.size) {k n : Int} {s : ByteArray} {r t : Rf} {p : Option Addr} {q c : Nat} {T0 : T} (hN : Nd w P (NV k n s r t (.slice p q c)) T0) (hO : Ok T0) (h : ¬ Ckd T0 ∨ at' < 1 ∨ cntOf row < at' ∨ many < 0 ∨ cntOf row < many) :
    Calls Tryz.prog 9 #[NV k n s r t (.slice p q c), .bool row, .int .i64 at', .int .i64 many] w fun e w' => (∃ a : Int, e = .returned (.tuple #[NV 0 0 nul .z .z (.slice none 0 0), .iface 40 (.int .i64 a)])) ∧ Below w.heap.size w w' := by
  have hb0 : Below w.heap.size w ((w.alloc (.cells (N12 k n s r t (.slice p q c)) 28)).alloc (.cells NZ 28)) := ((Below.refl _ _).alloc (Nat.le_refl _) _).alloc (by simp) _
  obtain ⟨hA, hD⟩ := two2 w (.cells (N12 k n s r t (.slice p q c)) 28) (.cells NZ 28)
  have hN0 := hN.mono (fun b h => hb0.block b (hP b h)) (fun _ h => h)
  have HA : Hid (∀ wx, Below (((w.alloc (.cells (N12 k n s r t (.slice p q c)) 28)).alloc (.cells NZ 28))).heap.size ((w.alloc (.cells (N12 k n s r t (.slice p q c)) 28)).alloc (.cells NZ 28)) wx → wx.cell? ⟨w.heap.size, 0, none⟩ = some (.int .i64 k) ∧ wx.cell? ⟨w.heap.size, 1, none⟩ = some (.int .i64 n) ∧ wx.cell? ⟨w.heap.size, 2, none⟩ = some (.string s) ∧ wx.cell? ⟨w.heap.size, 3, none⟩ = some (.int .i64 r.c) ∧ wx.cell? ⟨w.heap.size, 4, none⟩ = some (.int .i64 r.r) ∧ wx.cell? ⟨w.heap.size, 5, none⟩ = some (.bool r.fc) ∧ wx.cell? ⟨w.heap.size, 6, none⟩ = some (.bool r.fr) ∧ wx.cell? ⟨w.heap.size, 7, none⟩ = some (.int .i64 t.c) ∧ wx.cell? ⟨w.heap.size, 8, none⟩ = some (.int .i64 t.r) ∧ wx.cell? ⟨w.heap.size, 9, none⟩ = some (.bool t.fc) ∧ wx.cell? ⟨w.heap.size, 10, none⟩ = some (.bool t.fr) ∧ wx.cell? ⟨w.heap.size, 11, none⟩ = some (.slice p q c)) := fun wx hb => by
    obtain ⟨⟨a0, a1, a2, a3, a4, a5, a6, a7, a8, a9, a10, a11⟩, -⟩ := cells12 ((hb.block _ (lt_blk hA)).trans hA)
    exact ⟨a0, a1, a2, a3, a4, a5, a6, a7, a8, a9, a10, a11⟩
  have HD : Hid (∀ wx, Below (((w.alloc (.cells (N12 k n s r t (.slice p q c)) 28)).alloc (.cells NZ 28))).heap.size ((w.alloc (.cells (N12 k n s r t (.slice p q c)) 28)).alloc (.cells NZ 28)) wx → wx.heap[w.heap.size + 1]? = some (.cells NZ 28 (0, 0))) := fun wx hb => (hb.block _ (lt_blk hD)).trans hD
  have HLI : Hid (∀ wx, Calls Tryz.prog 18 #[.bool row] wx fun e w' => e = .returned (.agg (l3 row)) ∧ Below wx.heap.size wx w') := fun wx => lines_any row wx
  have HEN : Hid (∀ wx, Below (((w.alloc (.cells (N12 k n s r t (.slice p q c)) 28)).alloc (.cells NZ 28))).heap.size ((w.alloc (.cells (N12 k n s r t (.slice p q c)) 28)).alloc (.cells NZ 28)) wx → EnvW wx ∧ Nd wx P (NV k n s r t (.slice p q c)) T0 ∧ ∀ b, P b → b < wx.heap.size) := fun wx hb => ⟨(hE.next hb0).next hb, hN0.mono (fun b h => hb.block b (Nat.lt_of_lt_of_le (hP b h) hb0.size)) (fun _ h => h), fun b h => Nat.lt_of_lt_of_le (hP b h) (Nat.le_trans hb0.size hb.size)⟩
  have HW : Hid (w.heap.size + 2 = (((w.alloc (.cells (N12 k n s r t (.slice p q c)) 28)).alloc (.cells NZ 28))).heap.size ∧ Below w.heap.size w ((w.alloc (.cells (N12 k n s r t (.slice p q c)) 28)).alloc (.cells NZ 28))) := ⟨by simp, hb0⟩
  have HC : Hid (∀ wx, Below (((w.alloc (.cells (N12 k n s r t (.slice p q c)) 28)).alloc (.cells NZ 28))).heap.size ((w.alloc (.cells (N12 k n s r t (.slice p q c)) 28)).alloc (.cells NZ 28)) wx → Calls Tryz.prog 19 #[NV k n s r t (.slice p q c), .agg (l3 row), .int .i64 at', .int .i64 many] wx fun e w' => (∃ a : Int, e = .returned (.iface 40 (.int .i64 a))) ∧ Below wx.heap.size wx w') := fun wx hb => by
    obtain ⟨e1, e2, e3⟩ := HEN.out wx hb
    by_cases hck : Ckd T0
    · exact lines_bad row at' many wx e1 e3 e2 hO hck (h.resolve_left (fun hn => hn hck))
    · exact lines_no row at' many wx e1 e3 e2 hO hck
  clear hN hO hP hE h hN0 hA hD hb0 HEN
  go_enter Tryz.func9, Tryz.ntmps9
  go_wp2_with fail
  refine (HLI.out _).mono ?_
  rintro e w1 ⟨rfl, hb1⟩
  have hx1 : Below (((w.alloc (.cells (N12 k n s r t (.slice p q c)) 28)).alloc (.cells NZ 28))).heap.size ((w.alloc (.cells (N12 k n s r t (.slice p q c)) 28)).alloc (.cells NZ 28)) (w1.alloc (.cells (l3 row) 57)) := hb1.alloc hb1.size _
  obtain ⟨a0, a1, a2, a3, a4, a5, a6, a7, a8, a9, a10, a11⟩ := HA.out _ hx1
  have hl := blk_new w1 (.cells (l3 row) 57)
  have l0 : (w1.alloc (.cells (l3 row) 57)).cell? ⟨w1.heap.size, 0, none⟩ = some (.int .i64 (cntOf row)) := by rw [cell_blk hl]; rfl
  have l1 : (w1.alloc (.cells (l3 row) 57)).cell? ⟨w1.heap.size, 1, none⟩ = some (fv (ofF row) #[]) := by rw [cell_blk hl]; rfl
  have l2 : (w1.alloc (.cells (l3 row) 57)).cell? ⟨w1.heap.size, 2, none⟩ = some (fv (caF row) #[]) := by rw [cell_blk hl]; rfl
  clear hl
  go_wp2_with fail
  refine (HC.out _ hx1).mono ?_
  rintro e w2 ⟨⟨a, rfl⟩, hb2⟩
  have hx2 := hx1.trans (hb2.mono hx1.size)
  have hd := HD.out _ hx2
  have HB : Hid (Below w.heap.size w w2) := HW.out.2.trans (hx2.mono HW.out.2.size)
  obtain ⟨⟨z0, z1, z2, z3, z4, z5, z6, z7, z8, z9, z10, z11⟩, zf⟩ := cells12 hd
  clear a0 a1 a2 a3 a4 a5 a6 a7 a8 a9 a10 a11 l0 l1 l2 HD HA HC hx1 hx2 hb1 hb2 HLI
  go_wp2_with fail
  refine fin12 hd (Q := bodyPost _ _ _ _ _) ?_
  clear z0 z1 z2 z3 z4 z5 z6 z7 z8 z9 z10 z11 zf hd
  intro w3 hq3 hk3
  obtain ⟨⟨b0, b1, b2, b3, b4, b5, b6, b7, b8, b9, b10, b11⟩, bf'⟩ := cells12 hq3
  refine bodyPost_ret (v := .tuple #[NV 0 0 nul .z .z (.slice none 0 0), .iface 40 (.int .i64 a)]) (by simp [results, Tryz.results9, go_sem, b0, b1, b2, b3, b4, b5, b6, b7, b8, b9, b10, b11]) rfl ⟨⟨a, rfl⟩, ?_⟩
  exact HB.out.trans (hk3.toBelow HB.out.size (fun n hn e => by omega))
set_option maxRecDepth 100000 in
set_option maxHeartbeats 8000000 in
theorem inserted_yes (row : Bool) (at' many : Int) (w : World) (hE : EnvW w) {P : Nat → Prop} (hP : ∀ b, P b → b < w.heap.size) {k n : Int} {s : ByteArray} {r t : Rf} {p : Option Addr} {q c : Nat} {T0 : T} (hN : Nd w P (NV k n s r t (.slice p q c)) T0) (hO : Ok T0) (h : Ckd T0) (hrg : ¬ (at' < 1 ∨ cntOf row < at' ∨ many < 0 ∨ cntOf row < many)) (hF : Fits isK T0) (hB : Bd 200 T0) :
    Calls Tryz.prog 9 #[NV k n s r t (.slice p q c), .bool row, .int .i64 at', .int .i64 many] w fun e w' => ∃ (k2 n2 : Int) (s2 : ByteArray) (r2 t2 : Rf) (p2 : Option Addr) (m2 e2 : Nat), e = .returned (.tuple #[NV k2 n2 s2 r2 t2 (.slice p2 m2 e2), .nilIface]) ∧ Nd w' (Own w w') (NV k2 n2 s2 r2 t2 (.slice p2 m2 e2))  (chg (Cw (inR row at' many)) T0) ∧ Below w.heap.size w w' := by
  have hb0 : Below w.heap.size w ((w.alloc (.cells (N12 k n s r t (.slice p q c)) 28)).alloc (.cells NZ 28)) := ((Below.refl _ _).alloc (Nat.le_refl _) _).alloc (by simp) _
  obtain ⟨hA, hD⟩ := two2 w (.cells (N12 k n s r t (.slice p q c)) 28) (.cells NZ 28)
  have hN0 := hN.mono (fun b h => hb0.block b (hP b h)) (fun _ h => h)
  have HA : Hid (∀ wx, Below (((w.alloc (.cells (N12 k n s r t (.slice p q c)) 28)).alloc (.cells NZ 28))).heap.size ((w.alloc (.cells (N12 k n s r t (.slice p q c)) 28)).alloc (.cells NZ 28)) wx → wx.cell? ⟨w.heap.size, 0, none⟩ = some (.int .i64 k) ∧ wx.cell? ⟨w.heap.size, 1, none⟩ = some (.int .i64 n) ∧ wx.cell? ⟨w.heap.size, 2, none⟩ = some (.string s) ∧ wx.cell? ⟨w.heap.size, 3, none⟩ = some (.int .i64 r.c) ∧ wx.cell? ⟨w.heap.size, 4, none⟩ = some (.int .i64 r.r) ∧ wx.cell? ⟨w.heap.size, 5, none⟩ = some (.bool r.fc) ∧ wx.cell? ⟨w.heap.size, 6, none⟩ = some (.bool r.fr) ∧ wx.cell? ⟨w.heap.size, 7, none⟩ = some (.int .i64 t.c) ∧ wx.cell? ⟨w.heap.size, 8, none⟩ = some (.int .i64 t.r) ∧ wx.cell? ⟨w.heap.size, 9, none⟩ = some (.bool t.fc) ∧ wx.cell? ⟨w.heap.size, 10, none⟩ = some (.bool t.fr) ∧ wx.cell? ⟨w.heap.size, 11, none⟩ = some (.slice p q c)) := fun wx hb => by
    obtain ⟨⟨a0, a1, a2, a3, a4, a5, a6, a7, a8, a9, a10, a11⟩, -⟩ := cells12 ((hb.block _ (lt_blk hA)).trans hA)
    exact ⟨a0, a1, a2, a3, a4, a5, a6, a7, a8, a9, a10, a11⟩
  have HD : Hid (∀ wx, Below (((w.alloc (.cells (N12 k n s r t (.slice p q c)) 28)).alloc (.cells NZ 28))).heap.size ((w.alloc (.cells (N12 k n s r t (.slice p q c)) 28)).alloc (.cells NZ 28)) wx → wx.heap[w.heap.size + 1]? = some (.cells NZ 28 (0, 0))) := fun wx hb => (hb.block _ (lt_blk hD)).trans hD
  have HLI : Hid (∀ wx, Calls Tryz.prog 18 #[.bool row] wx fun e w' => e = .returned (.agg (l3 row)) ∧ Below wx.heap.size wx w') := fun wx => lines_any row wx
  have HEN : Hid (∀ wx, Below (((w.alloc (.cells (N12 k n s r t (.slice p q c)) 28)).alloc (.cells NZ 28))).heap.size ((w.alloc (.cells (N12 k n s r t (.slice p q c)) 28)).alloc (.cells NZ 28)) wx → EnvW wx ∧ Nd wx P (NV k n s r t (.slice p q c)) T0 ∧ ∀ b, P b → b < wx.heap.size) := fun wx hb => ⟨(hE.next hb0).next hb, hN0.mono (fun b h => hb.block b (Nat.lt_of_lt_of_le (hP b h) hb0.size)) (fun _ h => h), fun b h => Nat.lt_of_lt_of_le (hP b h) (Nat.le_trans hb0.size hb.size)⟩
  have HW : Hid (w.heap.size + 2 = (((w.alloc (.cells (N12 k n s r t (.slice p q c)) 28)).alloc (.cells NZ 28))).heap.size ∧ Below w.heap.size w ((w.alloc (.cells (N12 k n s r t (.slice p q c)) 28)).alloc (.cells NZ 28))) := ⟨by simp, hb0⟩
  have HC : Hid (∀ wx, Below (((w.alloc (.cells (N12 k n s r t (.slice p q c)) 28)).alloc (.cells NZ 28))).heap.size ((w.alloc (.cells (N12 k n s r t (.slice p q c)) 28)).alloc (.cells NZ 28)) wx → Calls Tryz.prog 19 #[NV k n s r t (.slice p q c), .agg (l3 row), .int .i64 at', .int .i64 many] wx fun e w' => e = .returned .nilIface ∧ Below wx.heap.size wx w') := fun wx hb => by
    obtain ⟨e1, e2, e3⟩ := HEN.out wx hb
    exact lines_yes row at' many wx e1 e3 e2 hO h hrg
  have HMK : Hid (∀ wx, Calls Tryz.prog 20 #[.agg (l3 row), .int .i64 at', .int .i64 many] wx fun e w' => ∃ bl ba bm bf, e = .returned (.agg #[fv 36 #[ptr bl, ptr ba, ptr bm], fv 26 #[ptr bf]]) ∧ (LN w' bl row ∧ w'.cell? ⟨ba, 0, none⟩ = some (.int .i64 at') ∧ w'.cell? ⟨bm, 0, none⟩ = some (.int .i64 many) ∧ w'.cell? ⟨bf, 0, none⟩ = some (fv 36 #[ptr bl, ptr ba, ptr bm])) ∧ Below wx.heap.size wx w') := fun wx => (ins_any row at' many wx).mono (fun _ _ ⟨bf, h1, h2, h3, h4, h5, h6⟩ => ⟨_, _, _, bf, h1, ⟨h2, h3, h4, h5⟩, h6⟩)
  have hcn : cntOf row ≤ 99 := by unfold cntOf; split <;> omega
  have HCH : Hid (∀ wx bl ba bm bf, Below (((w.alloc (.cells (N12 k n s r t (.slice p q c)) 28)).alloc (.cells NZ 28))).heap.size ((w.alloc (.cells (N12 k n s r t (.slice p q c)) 28)).alloc (.cells NZ 28)) wx → (LN wx bl row ∧ wx.cell? ⟨ba, 0, none⟩ = some (.int .i64 at') ∧ wx.cell? ⟨bm, 0, none⟩ = some (.int .i64 many) ∧ wx.cell? ⟨bf, 0, none⟩ = some (fv 36 #[ptr bl, ptr ba, ptr bm])) → Calls Tryz.prog 13 #[NV k n s r t (.slice p q c), .agg #[fv 36 #[ptr bl, ptr ba, ptr bm], fv 26 #[ptr bf]]] wx (OutNd wx (chg (Cw (inR row at' many)) T0))) := fun wx bl ba bm bf hb hf => by
    obtain ⟨e1, e2, e3⟩ := HEN.out wx hb
    exact (in_core row at' many bl ba bm bf wx (by omega) (by omega) hf.1 hf.2.1 hf.2.2.1 hf.2.2.2 e2 hF hB).mono (fun _ _ h => outNd_of h)
  clear hN hO hP hE h hN0 hA hD hb0 HEN hF hB hrg hcn
  go_enter Tryz.func9, Tryz.ntmps9
  go_wp2_with fail
  refine (HLI.out _).mono ?_
  rintro e w1 ⟨rfl, hb1⟩
  have hx1 : Below (((w.alloc (.cells (N12 k n s r t (.slice p q c)) 28)).alloc (.cells NZ 28))).heap.size ((w.alloc (.cells (N12 k n s r t (.slice p q c)) 28)).alloc (.cells NZ 28)) (w1.alloc (.cells (l3 row) 57)) := hb1.alloc hb1.size _
  obtain ⟨a0, a1, a2, a3, a4, a5, a6, a7, a8, a9, a10, a11⟩ := HA.out _ hx1
  have hl := blk_new w1 (.cells (l3 row) 57)
  have l0 : (w1.alloc (.cells (l3 row) 57)).cell? ⟨w1.heap.size, 0, none⟩ = some (.int .i64 (cntOf row)) := by rw [cell_blk hl]; rfl
  have l1 : (w1.alloc (.cells (l3 row) 57)).cell? ⟨w1.heap.size, 1, none⟩ = some (fv (ofF row) #[]) := by rw [cell_blk hl]; rfl
  have l2 : (w1.alloc (.cells (l3 row) 57)).cell? ⟨w1.heap.size, 2, none⟩ = some (fv (caF row) #[]) := by rw [cell_blk hl]; rfl
  have HSS : Hid (∀ wx, Below (w1.alloc (.cells (l3 row) 57)).heap.size (w1.alloc (.cells (l3 row) 57)) wx → (wx.cell? ⟨w.heap.size, 0, none⟩ = some (.int .i64 k) ∧ wx.cell? ⟨w.heap.size, 1, none⟩ = some (.int .i64 n) ∧ wx.cell? ⟨w.heap.size, 2, none⟩ = some (.string s) ∧ wx.cell? ⟨w.heap.size, 3, none⟩ = some (.int .i64 r.c) ∧ wx.cell? ⟨w.heap.size, 4, none⟩ = some (.int .i64 r.r) ∧ wx.cell? ⟨w.heap.size, 5, none⟩ = some (.bool r.fc) ∧ wx.cell? ⟨w.heap.size, 6, none⟩ = some (.bool r.fr) ∧ wx.cell? ⟨w.heap.size, 7, none⟩ = some (.int .i64 t.c) ∧ wx.cell? ⟨w.heap.size, 8, none⟩ = some (.int .i64 t.r) ∧ wx.cell? ⟨w.heap.size, 9, none⟩ = some (.bool t.fc) ∧ wx.cell? ⟨w.heap.size, 10, none⟩ = some (.bool t.fr) ∧ wx.cell? ⟨w.heap.size, 11, none⟩ = some (.slice p q c)) ∧ wx.cell? ⟨w1.heap.size, 0, none⟩ = some (.int .i64 (cntOf row)) ∧ wx.cell? ⟨w1.heap.size, 1, none⟩ = some (fv (ofF row) #[]) ∧ wx.cell? ⟨w1.heap.size, 2, none⟩ = some (fv (caF row) #[])) := fun wx hb => by
    refine ⟨HA.out _ (hx1.trans (hb.mono hx1.size)), ?_⟩
    have hl' := (hb.block _ (lt_blk hl)).trans hl
    exact ⟨by rw [cell_blk hl']; rfl, by rw [cell_blk hl']; rfl, by rw [cell_blk hl']; rfl⟩
  have HX1 : Hid (Below (((w.alloc (.cells (N12 k n s r t (.slice p q c)) 28)).alloc (.cells NZ 28))).heap.size ((w.alloc (.cells (N12 k n s r t (.slice p q c)) 28)).alloc (.cells NZ 28)) (w1.alloc (.cells (l3 row) 57))) := hx1
  have HLT : Hid (w.heap.size + 2 ≤ w1.heap.size) := Nat.le_trans (Nat.le_of_eq HW.out.1) hb1.size
  clear hl
  go_wp2_with fail
  refine (HC.out _ hx1).mono ?_
  rintro e w2 ⟨rfl, hb2⟩
  clear a0 a1 a2 a3 a4 a5 a6 a7 a8 a9 a10 a11 l0 l1 l2 HC HLI hx1
  go_wp2_with fail
  generalize hwb : (w1.alloc (.cells (l3 row) 57)) = wb at *
  generalize hw0 : ((w.alloc (.cells (N12 k n s r t (.slice p q c)) 28)).alloc (.cells NZ 28)) = wa at *
  clear hw0 hwb
  have hx2 : Below wb.heap.size wb w2.drew := hb2.drew
  have hne12 : w.heap.size ≠ w.heap.size + 1 := by omega
  have hne13 : w1.heap.size ≠ w.heap.size + 1 := by have := HLT.out; omega
  clear hb1 hb2
  go_region_held3 (fun wx => (wx.cell? ⟨w.heap.size, 0, none⟩ = some (.int .i64 k) ∧ wx.cell? ⟨w.heap.size, 1, none⟩ = some (.int .i64 n) ∧ wx.cell? ⟨w.heap.size, 2, none⟩ = some (.string s) ∧ wx.cell? ⟨w.heap.size, 3, none⟩ = some (.int .i64 r.c) ∧ wx.cell? ⟨w.heap.size, 4, none⟩ = some (.int .i64 r.r) ∧ wx.cell? ⟨w.heap.size, 5, none⟩ = some (.bool r.fc) ∧ wx.cell? ⟨w.heap.size, 6, none⟩ = some (.bool r.fr) ∧ wx.cell? ⟨w.heap.size, 7, none⟩ = some (.int .i64 t.c) ∧ wx.cell? ⟨w.heap.size, 8, none⟩ = some (.int .i64 t.r) ∧ wx.cell? ⟨w.heap.size, 9, none⟩ = some (.bool t.fc) ∧ wx.cell? ⟨w.heap.size, 10, none⟩ = some (.bool t.fr) ∧ wx.cell? ⟨w.heap.size, 11, none⟩ = some (.slice p q c)) ∧ wx.cell? ⟨w1.heap.size, 0, none⟩ = some (.int .i64 (cntOf row)) ∧ wx.cell? ⟨w1.heap.size, 1, none⟩ = some (fv (ofF row) #[]) ∧ wx.cell? ⟨w1.heap.size, 2, none⟩ = some (fv (caF row) #[])) (first | with_reducible exact HSS.out _ hx2 | with_reducible exact HSS.out _ hx3 | with_reducible exact HSS.out _ hx4 | (simp only [cell_set12 hne12, cell_set12 hne13]; with_reducible exact HSS.out _ hx4)) (first | (go_at_call 20; with_reducible refine (HMK.out _).mono ?_; rintro e w3 ⟨bl, ba, bm, bf, rfl, hcf, hb3⟩; have hx3 : Below wb.heap.size wb w3 := hx2.trans (hb3.mono hx2.size)) | (go_at_call 13; with_reducible refine (HCH.out _ _ _ _ _ (HX1.out.trans (hx3.mono HX1.out.size)) hcf).mono ?_; rintro e w4 ⟨k2, n2, s2, r2, t2, p2, m2, e2, rfl, hN3, hb4⟩; have hx4 : Below wb.heap.size wb w4 := hx3.trans (hb4.mono hx3.size); have hd4 := HD.out w4 (HX1.out.trans (hx4.mono HX1.out.size)); have ⟨⟨z0, z1, z2, z3, z4, z5, z6, z7, z8, z9, z10, z11⟩, zf⟩ := cells12 hd4))
  all_goals
    refine fin12 hd4 (Q := Exit.then _ _ _ _) ?_
    clear z0 z1 z2 z3 z4 z5 z6 z7 z8 z9 z10 z11 zf hd4
    intro w5 hq5 hk5
    obtain ⟨⟨b0, b1, b2, b3, b4, b5, b6, b7, b8, b9, b10, b11⟩, bf'⟩ := cells12 hq5
    go_wp2_with fail
    have hwa := HW.out.1
    have hxa := HX1.out.size
    have h4 : Below w.heap.size w w4 := HW.out.2.trans ((HX1.out.trans (hx4.mono HX1.out.size)).mono HW.out.2.size)
    refine bodyPost_ret (v := .tuple #[NV k2 n2 s2 r2 t2 (.slice p2 m2 e2), .nilIface]) (by simp [results, Tryz.results9, go_sem, b0, b1, b2, b3, b4, b5, b6, b7, b8, b9, b10, b11]) rfl ⟨k2, n2, s2, r2, t2, p2, m2, e2, rfl, ?_, ?_⟩
    · have h33 := hx3.size
      exact hN3.mono (fun b hb => hk5.block b hb.2 (by have := hb.1; omega)) (fun b hb => ⟨by have := hb.1; omega, Nat.lt_of_lt_of_le hb.2 hk5.size⟩)
    · exact h4.trans (hk5.toBelow h4.size (fun n hn e => by omega))
set_option maxRecDepth 100000 in
set_option maxHeartbeats 8000000 in
theorem deleted_no (row : Bool) (at' many : Int) (w : World) (hE : EnvW w) {P : Nat → Prop} (hP : ∀ b, P b → b < w.heap.size) {k n : Int} {s : ByteArray} {r t : Rf} {p : Option Addr} {q c : Nat} {T0 : T} (hN : Nd w P (NV k n s r t (.slice p q c)) T0) (hO : Ok T0) (h : ¬ Ckd T0 ∨ at' < 1 ∨ cntOf row < at' ∨ many < 0 ∨ cntOf row < many) :
    Calls Tryz.prog 10 #[NV k n s r t (.slice p q c), .bool row, .int .i64 at', .int .i64 many] w fun e w' => (∃ a : Int, e = .returned (.tuple #[NV 0 0 nul .z .z (.slice none 0 0), .iface 40 (.int .i64 a)])) ∧ Below w.heap.size w w' := by
  have hb0 : Below w.heap.size w ((w.alloc (.cells (N12 k n s r t (.slice p q c)) 28)).alloc (.cells NZ 28)) := ((Below.refl _ _).alloc (Nat.le_refl _) _).alloc (by simp) _
  obtain ⟨hA, hD⟩ := two2 w (.cells (N12 k n s r t (.slice p q c)) 28) (.cells NZ 28)
  have hN0 := hN.mono (fun b h => hb0.block b (hP b h)) (fun _ h => h)
  have HA : Hid (∀ wx, Below (((w.alloc (.cells (N12 k n s r t (.slice p q c)) 28)).alloc (.cells NZ 28))).heap.size ((w.alloc (.cells (N12 k n s r t (.slice p q c)) 28)).alloc (.cells NZ 28)) wx → wx.cell? ⟨w.heap.size, 0, none⟩ = some (.int .i64 k) ∧ wx.cell? ⟨w.heap.size, 1, none⟩ = some (.int .i64 n) ∧ wx.cell? ⟨w.heap.size, 2, none⟩ = some (.string s) ∧ wx.cell? ⟨w.heap.size, 3, none⟩ = some (.int .i64 r.c) ∧ wx.cell? ⟨w.heap.size, 4, none⟩ = some (.int .i64 r.r) ∧ wx.cell? ⟨w.heap.size, 5, none⟩ = some (.bool r.fc) ∧ wx.cell? ⟨w.heap.size, 6, none⟩ = some (.bool r.fr) ∧ wx.cell? ⟨w.heap.size, 7, none⟩ = some (.int .i64 t.c) ∧ wx.cell? ⟨w.heap.size, 8, none⟩ = some (.int .i64 t.r) ∧ wx.cell? ⟨w.heap.size, 9, none⟩ = some (.bool t.fc) ∧ wx.cell? ⟨w.heap.size, 10, none⟩ = some (.bool t.fr) ∧ wx.cell? ⟨w.heap.size, 11, none⟩ = some (.slice p q c)) := fun wx hb => by
    obtain ⟨⟨a0, a1, a2, a3, a4, a5, a6, a7, a8, a9, a10, a11⟩, -⟩ := cells12 ((hb.block _ (lt_blk hA)).trans hA)
    exact ⟨a0, a1, a2, a3, a4, a5, a6, a7, a8, a9, a10, a11⟩
  have HD : Hid (∀ wx, Below (((w.alloc (.cells (N12 k n s r t (.slice p q c)) 28)).alloc (.cells NZ 28))).heap.size ((w.alloc (.cells (N12 k n s r t (.slice p q c)) 28)).alloc (.cells NZ 28)) wx → wx.heap[w.heap.size + 1]? = some (.cells NZ 28 (0, 0))) := fun wx hb => (hb.block _ (lt_blk hD)).trans hD
  have HLI : Hid (∀ wx, Calls Tryz.prog 18 #[.bool row] wx fun e w' => e = .returned (.agg (l3 row)) ∧ Below wx.heap.size wx w') := fun wx => lines_any row wx
  have HEN : Hid (∀ wx, Below (((w.alloc (.cells (N12 k n s r t (.slice p q c)) 28)).alloc (.cells NZ 28))).heap.size ((w.alloc (.cells (N12 k n s r t (.slice p q c)) 28)).alloc (.cells NZ 28)) wx → EnvW wx ∧ Nd wx P (NV k n s r t (.slice p q c)) T0 ∧ ∀ b, P b → b < wx.heap.size) := fun wx hb => ⟨(hE.next hb0).next hb, hN0.mono (fun b h => hb.block b (Nat.lt_of_lt_of_le (hP b h) hb0.size)) (fun _ h => h), fun b h => Nat.lt_of_lt_of_le (hP b h) (Nat.le_trans hb0.size hb.size)⟩
  have HW : Hid (w.heap.size + 2 = (((w.alloc (.cells (N12 k n s r t (.slice p q c)) 28)).alloc (.cells NZ 28))).heap.size ∧ Below w.heap.size w ((w.alloc (.cells (N12 k n s r t (.slice p q c)) 28)).alloc (.cells NZ 28))) := ⟨by simp, hb0⟩
  have HC : Hid (∀ wx, Below (((w.alloc (.cells (N12 k n s r t (.slice p q c)) 28)).alloc (.cells NZ 28))).heap.size ((w.alloc (.cells (N12 k n s r t (.slice p q c)) 28)).alloc (.cells NZ 28)) wx → Calls Tryz.prog 19 #[NV k n s r t (.slice p q c), .agg (l3 row), .int .i64 at', .int .i64 many] wx fun e w' => (∃ a : Int, e = .returned (.iface 40 (.int .i64 a))) ∧ Below wx.heap.size wx w') := fun wx hb => by
    obtain ⟨e1, e2, e3⟩ := HEN.out wx hb
    by_cases hck : Ckd T0
    · exact lines_bad row at' many wx e1 e3 e2 hO hck (h.resolve_left (fun hn => hn hck))
    · exact lines_no row at' many wx e1 e3 e2 hO hck
  clear hN hO hP hE h hN0 hA hD hb0 HEN
  go_enter Tryz.func10, Tryz.ntmps10
  go_wp2_with fail
  refine (HLI.out _).mono ?_
  rintro e w1 ⟨rfl, hb1⟩
  have hx1 : Below (((w.alloc (.cells (N12 k n s r t (.slice p q c)) 28)).alloc (.cells NZ 28))).heap.size ((w.alloc (.cells (N12 k n s r t (.slice p q c)) 28)).alloc (.cells NZ 28)) (w1.alloc (.cells (l3 row) 57)) := hb1.alloc hb1.size _
  obtain ⟨a0, a1, a2, a3, a4, a5, a6, a7, a8, a9, a10, a11⟩ := HA.out _ hx1
  have hl := blk_new w1 (.cells (l3 row) 57)
  have l0 : (w1.alloc (.cells (l3 row) 57)).cell? ⟨w1.heap.size, 0, none⟩ = some (.int .i64 (cntOf row)) := by rw [cell_blk hl]; rfl
  have l1 : (w1.alloc (.cells (l3 row) 57)).cell? ⟨w1.heap.size, 1, none⟩ = some (fv (ofF row) #[]) := by rw [cell_blk hl]; rfl
  have l2 : (w1.alloc (.cells (l3 row) 57)).cell? ⟨w1.heap.size, 2, none⟩ = some (fv (caF row) #[]) := by rw [cell_blk hl]; rfl
  clear hl
  go_wp2_with fail
  refine (HC.out _ hx1).mono ?_
  rintro e w2 ⟨⟨a, rfl⟩, hb2⟩
  have hx2 := hx1.trans (hb2.mono hx1.size)
  have hd := HD.out _ hx2
  have HB : Hid (Below w.heap.size w w2) := HW.out.2.trans (hx2.mono HW.out.2.size)
  obtain ⟨⟨z0, z1, z2, z3, z4, z5, z6, z7, z8, z9, z10, z11⟩, zf⟩ := cells12 hd
  clear a0 a1 a2 a3 a4 a5 a6 a7 a8 a9 a10 a11 l0 l1 l2 HD HA HC hx1 hx2 hb1 hb2 HLI
  go_wp2_with fail
  refine fin12 hd (Q := bodyPost _ _ _ _ _) ?_
  clear z0 z1 z2 z3 z4 z5 z6 z7 z8 z9 z10 z11 zf hd
  intro w3 hq3 hk3
  obtain ⟨⟨b0, b1, b2, b3, b4, b5, b6, b7, b8, b9, b10, b11⟩, bf'⟩ := cells12 hq3
  refine bodyPost_ret (v := .tuple #[NV 0 0 nul .z .z (.slice none 0 0), .iface 40 (.int .i64 a)]) (by simp [results, Tryz.results10, go_sem, b0, b1, b2, b3, b4, b5, b6, b7, b8, b9, b10, b11]) rfl ⟨⟨a, rfl⟩, ?_⟩
  exact HB.out.trans (hk3.toBelow HB.out.size (fun n hn e => by omega))
set_option maxRecDepth 100000 in
set_option maxHeartbeats 8000000 in
theorem deleted_yes (row : Bool) (at' many : Int) (w : World) (hE : EnvW w) {P : Nat → Prop} (hP : ∀ b, P b → b < w.heap.size) {k n : Int} {s : ByteArray} {r t : Rf} {p : Option Addr} {q c : Nat} {T0 : T} (hN : Nd w P (NV k n s r t (.slice p q c)) T0) (hO : Ok T0) (h : Ckd T0) (hrg : ¬ (at' < 1 ∨ cntOf row < at' ∨ many < 0 ∨ cntOf row < many)) (hF : Fits (fun r => isK r ∧ (deR row at' many r).2 = true) T0) (hB : Bd 200 T0) :
    Calls Tryz.prog 10 #[NV k n s r t (.slice p q c), .bool row, .int .i64 at', .int .i64 many] w fun e w' => ∃ (k2 n2 : Int) (s2 : ByteArray) (r2 t2 : Rf) (p2 : Option Addr) (m2 e2 : Nat), e = .returned (.tuple #[NV k2 n2 s2 r2 t2 (.slice p2 m2 e2), .nilIface]) ∧ Nd w' (Own w w') (NV k2 n2 s2 r2 t2 (.slice p2 m2 e2))  (chg (Cw (deR row at' many)) T0) ∧ Below w.heap.size w w' := by
  have hb0 : Below w.heap.size w ((w.alloc (.cells (N12 k n s r t (.slice p q c)) 28)).alloc (.cells NZ 28)) := ((Below.refl _ _).alloc (Nat.le_refl _) _).alloc (by simp) _
  obtain ⟨hA, hD⟩ := two2 w (.cells (N12 k n s r t (.slice p q c)) 28) (.cells NZ 28)
  have hN0 := hN.mono (fun b h => hb0.block b (hP b h)) (fun _ h => h)
  have HA : Hid (∀ wx, Below (((w.alloc (.cells (N12 k n s r t (.slice p q c)) 28)).alloc (.cells NZ 28))).heap.size ((w.alloc (.cells (N12 k n s r t (.slice p q c)) 28)).alloc (.cells NZ 28)) wx → wx.cell? ⟨w.heap.size, 0, none⟩ = some (.int .i64 k) ∧ wx.cell? ⟨w.heap.size, 1, none⟩ = some (.int .i64 n) ∧ wx.cell? ⟨w.heap.size, 2, none⟩ = some (.string s) ∧ wx.cell? ⟨w.heap.size, 3, none⟩ = some (.int .i64 r.c) ∧ wx.cell? ⟨w.heap.size, 4, none⟩ = some (.int .i64 r.r) ∧ wx.cell? ⟨w.heap.size, 5, none⟩ = some (.bool r.fc) ∧ wx.cell? ⟨w.heap.size, 6, none⟩ = some (.bool r.fr) ∧ wx.cell? ⟨w.heap.size, 7, none⟩ = some (.int .i64 t.c) ∧ wx.cell? ⟨w.heap.size, 8, none⟩ = some (.int .i64 t.r) ∧ wx.cell? ⟨w.heap.size, 9, none⟩ = some (.bool t.fc) ∧ wx.cell? ⟨w.heap.size, 10, none⟩ = some (.bool t.fr) ∧ wx.cell? ⟨w.heap.size, 11, none⟩ = some (.slice p q c)) := fun wx hb => by
    obtain ⟨⟨a0, a1, a2, a3, a4, a5, a6, a7, a8, a9, a10, a11⟩, -⟩ := cells12 ((hb.block _ (lt_blk hA)).trans hA)
    exact ⟨a0, a1, a2, a3, a4, a5, a6, a7, a8, a9, a10, a11⟩
  have HD : Hid (∀ wx, Below (((w.alloc (.cells (N12 k n s r t (.slice p q c)) 28)).alloc (.cells NZ 28))).heap.size ((w.alloc (.cells (N12 k n s r t (.slice p q c)) 28)).alloc (.cells NZ 28)) wx → wx.heap[w.heap.size + 1]? = some (.cells NZ 28 (0, 0))) := fun wx hb => (hb.block _ (lt_blk hD)).trans hD
  have HLI : Hid (∀ wx, Calls Tryz.prog 18 #[.bool row] wx fun e w' => e = .returned (.agg (l3 row)) ∧ Below wx.heap.size wx w') := fun wx => lines_any row wx
  have HEN : Hid (∀ wx, Below (((w.alloc (.cells (N12 k n s r t (.slice p q c)) 28)).alloc (.cells NZ 28))).heap.size ((w.alloc (.cells (N12 k n s r t (.slice p q c)) 28)).alloc (.cells NZ 28)) wx → EnvW wx ∧ Nd wx P (NV k n s r t (.slice p q c)) T0 ∧ ∀ b, P b → b < wx.heap.size) := fun wx hb => ⟨(hE.next hb0).next hb, hN0.mono (fun b h => hb.block b (Nat.lt_of_lt_of_le (hP b h) hb0.size)) (fun _ h => h), fun b h => Nat.lt_of_lt_of_le (hP b h) (Nat.le_trans hb0.size hb.size)⟩
  have HW : Hid (w.heap.size + 2 = (((w.alloc (.cells (N12 k n s r t (.slice p q c)) 28)).alloc (.cells NZ 28))).heap.size ∧ Below w.heap.size w ((w.alloc (.cells (N12 k n s r t (.slice p q c)) 28)).alloc (.cells NZ 28))) := ⟨by simp, hb0⟩
  have HC : Hid (∀ wx, Below (((w.alloc (.cells (N12 k n s r t (.slice p q c)) 28)).alloc (.cells NZ 28))).heap.size ((w.alloc (.cells (N12 k n s r t (.slice p q c)) 28)).alloc (.cells NZ 28)) wx → Calls Tryz.prog 19 #[NV k n s r t (.slice p q c), .agg (l3 row), .int .i64 at', .int .i64 many] wx fun e w' => e = .returned .nilIface ∧ Below wx.heap.size wx w') := fun wx hb => by
    obtain ⟨e1, e2, e3⟩ := HEN.out wx hb
    exact lines_yes row at' many wx e1 e3 e2 hO h hrg
  have HMK : Hid (∀ wx, Calls Tryz.prog 21 #[.agg (l3 row), .int .i64 at', .int .i64 many] wx fun e w' => ∃ bl ba bm bf bt, e = .returned (.agg #[fv 37 #[ptr bl, ptr ba, ptr bm], fv 39 #[ptr bf, ptr bt]]) ∧ (LN w' bl row ∧ w'.cell? ⟨ba, 0, none⟩ = some (.int .i64 at') ∧ w'.cell? ⟨bm, 0, none⟩ = some (.int .i64 many) ∧ w'.cell? ⟨bf, 0, none⟩ = some (fv 37 #[ptr bl, ptr ba, ptr bm])) ∧ Below wx.heap.size wx w') := fun wx => (del_any row at' many wx).mono (fun _ _ ⟨bf, bt, h1, h2, h3, h4, h5, h6⟩ => ⟨_, _, _, bf, bt, h1, ⟨h2, h3, h4, h5⟩, h6⟩)
  have hcn : cntOf row ≤ 99 := by unfold cntOf; split <;> omega
  have HCH : Hid (∀ wx bl ba bm bf bt, Below (((w.alloc (.cells (N12 k n s r t (.slice p q c)) 28)).alloc (.cells NZ 28))).heap.size ((w.alloc (.cells (N12 k n s r t (.slice p q c)) 28)).alloc (.cells NZ 28)) wx → (LN wx bl row ∧ wx.cell? ⟨ba, 0, none⟩ = some (.int .i64 at') ∧ wx.cell? ⟨bm, 0, none⟩ = some (.int .i64 many) ∧ wx.cell? ⟨bf, 0, none⟩ = some (fv 37 #[ptr bl, ptr ba, ptr bm])) → Calls Tryz.prog 13 #[NV k n s r t (.slice p q c), .agg #[fv 37 #[ptr bl, ptr ba, ptr bm], fv 39 #[ptr bf, ptr bt]]] wx (OutNd wx (chg (Cw (deR row at' many)) T0))) := fun wx bl ba bm bf bt hb hf => by
    obtain ⟨e1, e2, e3⟩ := HEN.out wx hb
    exact (de_core row at' many bl ba bm bf bt wx (by omega) (by omega) hf.1 hf.2.1 hf.2.2.1 hf.2.2.2 e2 hF hB).mono (fun _ _ h => outNd_of h)
  clear hN hO hP hE h hN0 hA hD hb0 HEN hF hB hrg hcn
  go_enter Tryz.func10, Tryz.ntmps10
  go_wp2_with fail
  refine (HLI.out _).mono ?_
  rintro e w1 ⟨rfl, hb1⟩
  have hx1 : Below (((w.alloc (.cells (N12 k n s r t (.slice p q c)) 28)).alloc (.cells NZ 28))).heap.size ((w.alloc (.cells (N12 k n s r t (.slice p q c)) 28)).alloc (.cells NZ 28)) (w1.alloc (.cells (l3 row) 57)) := hb1.alloc hb1.size _
  obtain ⟨a0, a1, a2, a3, a4, a5, a6, a7, a8, a9, a10, a11⟩ := HA.out _ hx1
  have hl := blk_new w1 (.cells (l3 row) 57)
  have l0 : (w1.alloc (.cells (l3 row) 57)).cell? ⟨w1.heap.size, 0, none⟩ = some (.int .i64 (cntOf row)) := by rw [cell_blk hl]; rfl
  have l1 : (w1.alloc (.cells (l3 row) 57)).cell? ⟨w1.heap.size, 1, none⟩ = some (fv (ofF row) #[]) := by rw [cell_blk hl]; rfl
  have l2 : (w1.alloc (.cells (l3 row) 57)).cell? ⟨w1.heap.size, 2, none⟩ = some (fv (caF row) #[]) := by rw [cell_blk hl]; rfl
  have HSS : Hid (∀ wx, Below (w1.alloc (.cells (l3 row) 57)).heap.size (w1.alloc (.cells (l3 row) 57)) wx → (wx.cell? ⟨w.heap.size, 0, none⟩ = some (.int .i64 k) ∧ wx.cell? ⟨w.heap.size, 1, none⟩ = some (.int .i64 n) ∧ wx.cell? ⟨w.heap.size, 2, none⟩ = some (.string s) ∧ wx.cell? ⟨w.heap.size, 3, none⟩ = some (.int .i64 r.c) ∧ wx.cell? ⟨w.heap.size, 4, none⟩ = some (.int .i64 r.r) ∧ wx.cell? ⟨w.heap.size, 5, none⟩ = some (.bool r.fc) ∧ wx.cell? ⟨w.heap.size, 6, none⟩ = some (.bool r.fr) ∧ wx.cell? ⟨w.heap.size, 7, none⟩ = some (.int .i64 t.c) ∧ wx.cell? ⟨w.heap.size, 8, none⟩ = some (.int .i64 t.r) ∧ wx.cell? ⟨w.heap.size, 9, none⟩ = some (.bool t.fc) ∧ wx.cell? ⟨w.heap.size, 10, none⟩ = some (.bool t.fr) ∧ wx.cell? ⟨w.heap.size, 11, none⟩ = some (.slice p q c)) ∧ wx.cell? ⟨w1.heap.size, 0, none⟩ = some (.int .i64 (cntOf row)) ∧ wx.cell? ⟨w1.heap.size, 1, none⟩ = some (fv (ofF row) #[]) ∧ wx.cell? ⟨w1.heap.size, 2, none⟩ = some (fv (caF row) #[])) := fun wx hb => by
    refine ⟨HA.out _ (hx1.trans (hb.mono hx1.size)), ?_⟩
    have hl' := (hb.block _ (lt_blk hl)).trans hl
    exact ⟨by rw [cell_blk hl']; rfl, by rw [cell_blk hl']; rfl, by rw [cell_blk hl']; rfl⟩
  have HX1 : Hid (Below (((w.alloc (.cells (N12 k n s r t (.slice p q c)) 28)).alloc (.cells NZ 28))).heap.size ((w.alloc (.cells (N12 k n s r t (.slice p q c)) 28)).alloc (.cells NZ 28)) (w1.alloc (.cells (l3 row) 57))) := hx1
  have HLT : Hid (w.heap.size + 2 ≤ w1.heap.size) := Nat.le_trans (Nat.le_of_eq HW.out.1) hb1.size
  clear hl
  go_wp2_with fail
  refine (HC.out _ hx1).mono ?_
  rintro e w2 ⟨rfl, hb2⟩
  clear a0 a1 a2 a3 a4 a5 a6 a7 a8 a9 a10 a11 l0 l1 l2 HC HLI hx1
  go_wp2_with fail
  generalize hwb : (w1.alloc (.cells (l3 row) 57)) = wb at *
  generalize hw0 : ((w.alloc (.cells (N12 k n s r t (.slice p q c)) 28)).alloc (.cells NZ 28)) = wa at *
  clear hw0 hwb
  have hx2 : Below wb.heap.size wb w2.drew := hb2.drew
  have hne12 : w.heap.size ≠ w.heap.size + 1 := by omega
  have hne13 : w1.heap.size ≠ w.heap.size + 1 := by have := HLT.out; omega
  clear hb1 hb2
  go_region_held3 (fun wx => (wx.cell? ⟨w.heap.size, 0, none⟩ = some (.int .i64 k) ∧ wx.cell? ⟨w.heap.size, 1, none⟩ = some (.int .i64 n) ∧ wx.cell? ⟨w.heap.size, 2, none⟩ = some (.string s) ∧ wx.cell? ⟨w.heap.size, 3, none⟩ = some (.int .i64 r.c) ∧ wx.cell? ⟨w.heap.size, 4, none⟩ = some (.int .i64 r.r) ∧ wx.cell? ⟨w.heap.size, 5, none⟩ = some (.bool r.fc) ∧ wx.cell? ⟨w.heap.size, 6, none⟩ = some (.bool r.fr) ∧ wx.cell? ⟨w.heap.size, 7, none⟩ = some (.int .i64 t.c) ∧ wx.cell? ⟨w.heap.size, 8, none⟩ = some (.int .i64 t.r) ∧ wx.cell? ⟨w.heap.size, 9, none⟩ = some (.bool t.fc) ∧ wx.cell? ⟨w.heap.size, 10, none⟩ = some (.bool t.fr) ∧ wx.cell? ⟨w.heap.size, 11, none⟩ = some (.slice p q c)) ∧ wx.cell? ⟨w1.heap.size, 0, none⟩ = some (.int .i64 (cntOf row)) ∧ wx.cell? ⟨w1.heap.size, 1, none⟩ = some (fv (ofF row) #[]) ∧ wx.cell? ⟨w1.heap.size, 2, none⟩ = some (fv (caF row) #[])) (first | with_reducible exact HSS.out _ hx2 | with_reducible exact HSS.out _ hx3 | with_reducible exact HSS.out _ hx4 | (simp only [cell_set12 hne12, cell_set12 hne13]; with_reducible exact HSS.out _ hx4)) (first | (go_at_call 21; with_reducible refine (HMK.out _).mono ?_; rintro e w3 ⟨bl, ba, bm, bf, bt, rfl, hcf, hb3⟩; have hx3 : Below wb.heap.size wb w3 := hx2.trans (hb3.mono hx2.size)) | (go_at_call 13; with_reducible refine (HCH.out _ _ _ _ _ _ (HX1.out.trans (hx3.mono HX1.out.size)) hcf).mono ?_; rintro e w4 ⟨k2, n2, s2, r2, t2, p2, m2, e2, rfl, hN3, hb4⟩; have hx4 : Below wb.heap.size wb w4 := hx3.trans (hb4.mono hx3.size); have hd4 := HD.out w4 (HX1.out.trans (hx4.mono HX1.out.size)); have ⟨⟨z0, z1, z2, z3, z4, z5, z6, z7, z8, z9, z10, z11⟩, zf⟩ := cells12 hd4))
  all_goals
    refine fin12 hd4 (Q := Exit.then _ _ _ _) ?_
    clear z0 z1 z2 z3 z4 z5 z6 z7 z8 z9 z10 z11 zf hd4
    intro w5 hq5 hk5
    obtain ⟨⟨b0, b1, b2, b3, b4, b5, b6, b7, b8, b9, b10, b11⟩, bf'⟩ := cells12 hq5
    go_wp2_with fail
    have hwa := HW.out.1
    have hxa := HX1.out.size
    have h4 : Below w.heap.size w w4 := HW.out.2.trans ((HX1.out.trans (hx4.mono HX1.out.size)).mono HW.out.2.size)
    refine bodyPost_ret (v := .tuple #[NV k2 n2 s2 r2 t2 (.slice p2 m2 e2), .nilIface]) (by simp [results, Tryz.results10, go_sem, b0, b1, b2, b3, b4, b5, b6, b7, b8, b9, b10, b11]) rfl ⟨k2, n2, s2, r2, t2, p2, m2, e2, rfl, ?_, ?_⟩
    · have h33 := hx3.size
      exact hN3.mono (fun b hb => hk5.block b hb.2 (by have := hb.1; omega)) (fun b hb => ⟨by have := hb.1; omega, Nat.lt_of_lt_of_le hb.2 hk5.size⟩)
    · exact h4.trans (hk5.toBelow h4.size (fun n hn e => by omega))
end Go.Proofs.YtimagcmmaffpjaaGreatDoor.fm
