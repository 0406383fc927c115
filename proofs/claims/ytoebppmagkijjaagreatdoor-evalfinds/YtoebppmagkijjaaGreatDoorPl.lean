/- An operator with its operands is written. Conditions: the package variables as the program's text lays them; lengths below a million. -/
import Derived.Test.YtoebppmagkijjaaGreatDoorPk
namespace Go.Proofs.YtoebppmagkijjaaGreatDoor.fm
open Go.RowKit
theorem opTxt_T {op : Nat} (h1 : 1 ≤ op) (h11 : op ≤ 11) : (opTxt op).data.toList = opT op ∧ (opTxt op).size ≤ 2 := by
  have hc : op = 1 ∨ op = 2 ∨ op = 3 ∨ op = 4 ∨ op = 5 ∨ op = 6 ∨ op = 7 ∨ op = 8 ∨ op = 9 ∨ op = 10 ∨ op = 11 := by omega
  rcases hc with rfl | rfl | rfl | rfl | rfl | rfl | rfl | rfl | rfl | rfl | rfl <;> exact ⟨rfl, by decide⟩
set_option maxHeartbeats 8000000 in
set_option maxRecDepth 100000 in
theorem node_two (w0 : World) (hE : EnvW w0) (op : Nat) (h1 : 1 ≤ op) (h11 : op ≤ 11) (g o c : Nat) (k1 n1 : Int) (s1 : ByteArray) (r1a r1b : Rf) (v1 : Value) (k2 n2 : Int) (s2 : ByteArray) (r2a r2b : Rf) (v2 : Value) (s : ByteArray) (r t : Rf) (xa xb : List UInt8) (da db : Nat) (hg : g < w0.heap.size)
    (hka : ∀ j x, (NV k1 n1 s1 r1a r1b v1).cells.toList[j]? = some x → w0.cell? ⟨g, o + j, none⟩ = some x) (hkb : ∀ j x, (NV k2 n2 s2 r2a r2b v2).cells.toList[j]? = some x → w0.cell? ⟨g, o + 12 + j, none⟩ = some x)
    (hOa : OpdOK w0 (NV k1 n1 s1 r1a r1b v1) (lev op) xa da) (hOb : OpdOK w0 (NV k2 n2 s2 r2a r2b v2) (lev op + 1) xb db) : NodeOK w0 (NV 8 op s r t (.slice (some ⟨g, o, none⟩) 2 c)) (xa ++ opT op ++ xb) (max da db) := by
  intro w wb y d m hb hW hdm hm hlen
  have hs0 := hb.size
  have hlt := hW.lt
  have hEw := hE.below hb hE.lt
  have hW2 := (hW.alloc (.cells #[ptr wb] 166)).alloc (.cells (N12 8 op s r t (.slice (some ⟨g, o, none⟩) 2 c)) 28)
  have kW2 : Kw w0.heap.size wb w ((w.alloc (.cells #[ptr wb] 166)).alloc (.cells (N12 8 op s r t (.slice (some ⟨g, o, none⟩) 2 c)) 28)) := ((Kw.refl _ _ _).alloc hs0 _).alloc (by simp; omega) _
  have hp2 : ((w.alloc (.cells #[ptr wb] 166)).alloc (.cells (N12 8 op s r t (.slice (some ⟨g, o, none⟩) 2 c)) 28)).heap[w.heap.size]? = some (.cells #[ptr wb] 166 (0, 0)) := by
    rw [Below.heap_alloc _ _ _ (by simp)]; exact blk_new _ _
  have hn2 : ((w.alloc (.cells #[ptr wb] 166)).alloc (.cells (N12 8 op s r t (.slice (some ⟨g, o, none⟩) 2 c)) 28)).heap[w.heap.size + 1]? = some (.cells (N12 8 op s r t (.slice (some ⟨g, o, none⟩) 2 c)) 28 (0, 0)) := by
    have := blk_new (w.alloc (.cells #[ptr wb] 166)) (.cells (N12 8 op s r t (.slice (some ⟨g, o, none⟩) 2 c)) 28)
    simpa using this
  have hE2 := hEw.below kW2.b hE.lt
  have hb2 := hb.trans kW2.b
  have hlv := opLv_lev h1 h11
  have hot := opTxt_T h1 h11
  have hl4 := lev_le op
  have hw1 : w.heap.size ≠ wb := by omega
  have hw2 : w.heap.size + 1 ≠ wb := by omega
  have hcell := (hE2.f.cell op (by omega)).2
  have hcell0 := (hEw.f.cell op (by omega)).2
  rw [show 2 * op + 1 = op * 2 + 1 from by omega, hlv] at hcell hcell0
  obtain ⟨⟨a0, a1, a2, a3, a4, a5, a6, a7, a8, a9, a10, a11⟩, af⟩ := cells12 hn2
  have hmf : ∀ (fn : Fn) (first cap : Array Value) (w : World), (Instr.makeFunc fn first cap).run Tryz.prog w = .ok (.func fn first cap) w := fun _ _ _ _ => rfl
  have i0 : (0 : Int) ≤ (op : Int) := by omega
  have i1 : (op : Int) < 12 := by omega
  have hl4' : ((lev op : Nat) : Int) ≤ 4 := by omega
  have p0 := (cells1 hp2).1
  have KC : Hid (∀ wx, Kw w0.heap.size wb ((w.alloc (.cells #[ptr wb] 166)).alloc (.cells (N12 8 op s r t (.slice (some ⟨g, o, none⟩) 2 c)) 28)) wx → ∀ i u, w0.cell? ⟨g, i, none⟩ = some u → wx.cell? ⟨g, i, none⟩ = some u) := fun wx hk i u hu => by rw [(hb2.trans hk.b).cell (p := ⟨g, i, none⟩) hg]; exact hu
  have KB : Hid (∀ wx, Kw w0.heap.size wb ((w.alloc (.cells #[ptr wb] 166)).alloc (.cells (N12 8 op s r t (.slice (some ⟨g, o, none⟩) 2 c)) 28)) wx → wx.heap[w.heap.size]? = some (.cells #[ptr wb] 166 (0, 0)) ∧ wx.heap[w.heap.size + 1]? = some (.cells (N12 8 op s r t (.slice (some ⟨g, o, none⟩) 2 c)) 28 (0, 0))) := fun wx hk => ⟨hk.blk hp2 (by decide) hw1, hk.blk hn2 (by decide) hw2⟩
  have KE : Hid (∀ wx, Kw w0.heap.size wb ((w.alloc (.cells #[ptr wb] 166)).alloc (.cells (N12 8 op s r t (.slice (some ⟨g, o, none⟩) 2 c)) 28)) wx → wx.cell? ⟨0, op * 2, none⟩ = some (.string (opTxt op))) := fun wx hk => by
    have := ((hE2.below hk.b hE.lt).f.cell op (by omega)).1
    rw [show op * 2 = 2 * op from by omega]; exact this
  have K7 : Hid (∀ wx, Kw w0.heap.size wb ((w.alloc (.cells #[ptr wb] 166)).alloc (.cells (N12 8 op s r t (.slice (some ⟨g, o, none⟩) 2 c)) 28)) wx → wx.cell? ⟨w.heap.size, 0, none⟩ = some (ptr wb) ∧ wx.cell? ⟨w.heap.size + 1, 11, none⟩ = some (.slice (some ⟨g, o, none⟩) 2 c) ∧ wx.cell? ⟨g, o, none⟩ = some (.int .i64 k1) ∧ wx.cell? ⟨g, o + 1, none⟩ = some (.int .i64 n1) ∧ wx.cell? ⟨g, o + 2, none⟩ = some (.string s1) ∧ wx.cell? ⟨g, o + 3, none⟩ = some (.int .i64 r1a.c) ∧ wx.cell? ⟨g, o + 4, none⟩ = some (.int .i64 r1a.r) ∧ wx.cell? ⟨g, o + 5, none⟩ = some (.bool r1a.fc) ∧ wx.cell? ⟨g, o + 6, none⟩ = some (.bool r1a.fr) ∧ wx.cell? ⟨g, o + 7, none⟩ = some (.int .i64 r1b.c) ∧ wx.cell? ⟨g, o + 8, none⟩ = some (.int .i64 r1b.r) ∧ wx.cell? ⟨g, o + 9, none⟩ = some (.bool r1b.fc) ∧ wx.cell? ⟨g, o + 10, none⟩ = some (.bool r1b.fr) ∧ wx.cell? ⟨g, o + 11, none⟩ = some (v1)) := fun wx hk =>
    ⟨(cells1 (KB.out wx hk).1).1, (cells12 (KB.out wx hk).2).1.2.2.2.2.2.2.2.2.2.2.2, KC.out wx hk _ _ (hka 0 _ rfl), KC.out wx hk _ _ (hka 1 _ rfl), KC.out wx hk _ _ (hka 2 _ rfl), KC.out wx hk _ _ (hka 3 _ rfl), KC.out wx hk _ _ (hka 4 _ rfl), KC.out wx hk _ _ (hka 5 _ rfl), KC.out wx hk _ _ (hka 6 _ rfl), KC.out wx hk _ _ (hka 7 _ rfl), KC.out wx hk _ _ (hka 8 _ rfl), KC.out wx hk _ _ (hka 9 _ rfl), KC.out wx hk _ _ (hka 10 _ rfl), KC.out wx hk _ _ (hka 11 _ rfl)⟩
  have K8 : Hid (∀ wx, Kw w0.heap.size wb ((w.alloc (.cells #[ptr wb] 166)).alloc (.cells (N12 8 op s r t (.slice (some ⟨g, o, none⟩) 2 c)) 28)) wx → wx.cell? ⟨w.heap.size, 0, none⟩ = some (ptr wb) ∧ wx.cell? ⟨w.heap.size + 1, 1, none⟩ = some (.int .i64 op) ∧ wx.cell? ⟨0, op * 2, none⟩ = some (.string (opTxt op))) := fun wx hk => ⟨(cells1 (KB.out wx hk).1).1, (cells12 (KB.out wx hk).2).1.2.1, KE.out wx hk⟩
  have K9 : Hid (∀ wx, Kw w0.heap.size wb ((w.alloc (.cells #[ptr wb] 166)).alloc (.cells (N12 8 op s r t (.slice (some ⟨g, o, none⟩) 2 c)) 28)) wx → wx.cell? ⟨w.heap.size, 0, none⟩ = some (ptr wb) ∧ wx.cell? ⟨w.heap.size + 1, 11, none⟩ = some (.slice (some ⟨g, o, none⟩) 2 c) ∧ wx.cell? ⟨g, o + 12, none⟩ = some (.int .i64 k2) ∧ wx.cell? ⟨g, o + 12 + 1, none⟩ = some (.int .i64 n2) ∧ wx.cell? ⟨g, o + 12 + 2, none⟩ = some (.string s2) ∧ wx.cell? ⟨g, o + 12 + 3, none⟩ = some (.int .i64 r2a.c) ∧ wx.cell? ⟨g, o + 12 + 4, none⟩ = some (.int .i64 r2a.r) ∧ wx.cell? ⟨g, o + 12 + 5, none⟩ = some (.bool r2a.fc) ∧ wx.cell? ⟨g, o + 12 + 6, none⟩ = some (.bool r2a.fr) ∧ wx.cell? ⟨g, o + 12 + 7, none⟩ = some (.int .i64 r2b.c) ∧ wx.cell? ⟨g, o + 12 + 8, none⟩ = some (.int .i64 r2b.r) ∧ wx.cell? ⟨g, o + 12 + 9, none⟩ = some (.bool r2b.fc) ∧ wx.cell? ⟨g, o + 12 + 10, none⟩ = some (.bool r2b.fr) ∧ wx.cell? ⟨g, o + 12 + 11, none⟩ = some (v2) ∧ wx.cell? ⟨g, o + 13, none⟩ = some (.int .i64 n2) ∧ wx.cell? ⟨g, o + 14, none⟩ = some (.string s2) ∧ wx.cell? ⟨g, o + 15, none⟩ = some (.int .i64 r2a.c) ∧ wx.cell? ⟨g, o + 16, none⟩ = some (.int .i64 r2a.r) ∧ wx.cell? ⟨g, o + 17, none⟩ = some (.bool r2a.fc) ∧ wx.cell? ⟨g, o + 18, none⟩ = some (.bool r2a.fr) ∧ wx.cell? ⟨g, o + 19, none⟩ = some (.int .i64 r2b.c) ∧ wx.cell? ⟨g, o + 20, none⟩ = some (.int .i64 r2b.r) ∧ wx.cell? ⟨g, o + 21, none⟩ = some (.bool r2b.fc) ∧ wx.cell? ⟨g, o + 22, none⟩ = some (.bool r2b.fr) ∧ wx.cell? ⟨g, o + 23, none⟩ = some (v2)) := fun wx hk =>
    ⟨(cells1 (KB.out wx hk).1).1, (cells12 (KB.out wx hk).2).1.2.2.2.2.2.2.2.2.2.2.2, KC.out wx hk _ _ (hkb 0 _ rfl), KC.out wx hk _ _ (hkb 1 _ rfl), KC.out wx hk _ _ (hkb 2 _ rfl), KC.out wx hk _ _ (hkb 3 _ rfl), KC.out wx hk _ _ (hkb 4 _ rfl), KC.out wx hk _ _ (hkb 5 _ rfl), KC.out wx hk _ _ (hkb 6 _ rfl), KC.out wx hk _ _ (hkb 7 _ rfl), KC.out wx hk _ _ (hkb 8 _ rfl), KC.out wx hk _ _ (hkb 9 _ rfl), KC.out wx hk _ _ (hkb 10 _ rfl), KC.out wx hk _ _ (hkb 11 _ rfl), KC.out wx hk _ _ (hkb 1 _ rfl), KC.out wx hk _ _ (hkb 2 _ rfl), KC.out wx hk _ _ (hkb 3 _ rfl), KC.out wx hk _ _ (hkb 4 _ rfl), KC.out wx hk _ _ (hkb 5 _ rfl), KC.out wx hk _ _ (hkb 6 _ rfl), KC.out wx hk _ _ (hkb 7 _ rfl), KC.out wx hk _ _ (hkb 8 _ rfl), KC.out wx hk _ _ (hkb 9 _ rfl), KC.out wx hk _ _ (hkb 10 _ rfl), KC.out wx hk _ _ (hkb 11 _ rfl)⟩
  have HA : Hid (∀ wx, Kw w0.heap.size wb ((w.alloc (.cells #[ptr wb] 166)).alloc (.cells (N12 8 op s r t (.slice (some ⟨g, o, none⟩) 2 c)) 28)) wx → WB wx w0.heap.size wb y d m → Calls Tryz.prog 143 #[ptr wb, NV k1 n1 s1 r1a r1b v1, .int .i64 ((lev op : Nat) : Int)] wx fun e w' => e = .returned (.tuple #[]) ∧ WB w' w0.heap.size wb (y ++ xa) d (max m (d + da)) ∧ Kw w0.heap.size wb ((w.alloc (.cells #[ptr wb] 166)).alloc (.cells (N12 8 op s r t (.slice (some ⟨g, o, none⟩) 2 c)) 28)) w') := fun wx hk hWx => by
    refine (hOa wx wb y d m (hb2.trans hk.b) hWx hdm (by omega) (by simp at hlen ⊢; omega)).mono ?_
    rintro e w' ⟨rfl, q1, q2⟩
    exact ⟨rfl, q1, hk.trans q2⟩
  have HO : Hid (∀ wx, Kw w0.heap.size wb ((w.alloc (.cells #[ptr wb] 166)).alloc (.cells (N12 8 op s r t (.slice (some ⟨g, o, none⟩) 2 c)) 28)) wx → WB wx w0.heap.size wb (y ++ xa) d (max m (d + da)) → Calls Tryz.prog 102 #[ptr wb, .string (opTxt op)] wx fun e w' => e = .returned (.tuple #[.int .i64 (opTxt op).size, .nilIface]) ∧ WB w' w0.heap.size wb (y ++ xa ++ opT op) d (max m (d + da)) ∧ Kw w0.heap.size wb ((w.alloc (.cells #[ptr wb] 166)).alloc (.cells (N12 8 op s r t (.slice (some ⟨g, o, none⟩) 2 c)) 28)) w') := fun wx hk hWx => by
    have hsx := (hb2.trans hk.b).size
    refine (write_any w0.heap.size wb _ d _ (opTxt op) wx hWx (by simp at hlen ⊢; omega) hsx).mono ?_
    rintro e w' ⟨rfl, q1, q2⟩
    rw [hot.1] at q1
    exact ⟨rfl, q1, hk.trans q2⟩
  have HBB : Hid (∀ wx, Kw w0.heap.size wb ((w.alloc (.cells #[ptr wb] 166)).alloc (.cells (N12 8 op s r t (.slice (some ⟨g, o, none⟩) 2 c)) 28)) wx → WB wx w0.heap.size wb (y ++ xa ++ opT op) d (max m (d + da)) → Calls Tryz.prog 143 #[ptr wb, NV k2 n2 s2 r2a r2b v2, .int .i64 (IntKind.i64.wrap (((lev op : Nat) : Int) + 1))] wx fun e w' => e = .returned (.tuple #[]) ∧ WB w' w0.heap.size wb (y ++ xa ++ opT op ++ xb) d (max (max m (d + da)) (d + db)) ∧ Kw w0.heap.size wb ((w.alloc (.cells #[ptr wb] 166)).alloc (.cells (N12 8 op s r t (.slice (some ⟨g, o, none⟩) 2 c)) 28)) w') := fun wx hk hWx => by
    rw [show IntKind.i64.wrap (((lev op : Nat) : Int) + 1) = ((lev op : Nat) : Int) + 1 from Go.IntWalk.i64_in _ (by omega)]
    have := hOb wx wb _ d _ (hb2.trans hk.b) hWx (by omega) (by omega) (by simp at hlen ⊢; omega)
    rw [show ((lev op + 1 : Nat) : Int) = ((lev op : Nat) : Int) + 1 from by omega] at this
    refine this.mono ?_
    rintro e w' ⟨rfl, q1, q2⟩
    exact ⟨rfl, q1, hk.trans q2⟩
  have HK : Hid (Kw w0.heap.size wb w ((w.alloc (.cells #[ptr wb] 166)).alloc (.cells (N12 8 op s r t (.slice (some ⟨g, o, none⟩) 2 c)) 28))) := kW2
  have hk0 : Kw w0.heap.size wb ((w.alloc (.cells #[ptr wb] 166)).alloc (.cells (N12 8 op s r t (.slice (some ⟨g, o, none⟩) 2 c)) 28)) ((w.alloc (.cells #[ptr wb] 166)).alloc (.cells (N12 8 op s r t (.slice (some ⟨g, o, none⟩) 2 c)) 28)).drew := (Kw.refl _ _ _).drew
  have HDR : Hid (∀ wx, Kw w0.heap.size wb ((w.alloc (.cells #[ptr wb] 166)).alloc (.cells (N12 8 op s r t (.slice (some ⟨g, o, none⟩) 2 c)) 28)) wx → Kw w0.heap.size wb ((w.alloc (.cells #[ptr wb] 166)).alloc (.cells (N12 8 op s r t (.slice (some ⟨g, o, none⟩) 2 c)) 28)) wx.drew) := fun wx h => h.drew
  have hWd := hW2.drew
  clear hE hEw hE2 hW hW2 hp2 hn2 hb hb2 hka hkb hOa hOb hot hlv kW2 hg hw1 hw2 KB KC KE
  go_enter Tryz.func103, Tryz.ntmps103
  go_wp2_with fail
  clear a0 a1 a2 a3 a4 a5 a6 a7 a8 a9 a10 a11 af p0 hcell hcell0
  generalize (w.alloc (.cells #[ptr wb] 166)).alloc _ = w2 at *
  go_region_held3 (fun wx => wx.cell? ⟨w.heap.size, 0, none⟩ = some (ptr wb) ∧ wx.cell? ⟨w.heap.size + 1, 11, none⟩ = some (.slice (some ⟨g, o, none⟩) 2 c) ∧ wx.cell? ⟨g, o, none⟩ = some (.int .i64 k1) ∧ wx.cell? ⟨g, o + 1, none⟩ = some (.int .i64 n1) ∧ wx.cell? ⟨g, o + 2, none⟩ = some (.string s1) ∧ wx.cell? ⟨g, o + 3, none⟩ = some (.int .i64 r1a.c) ∧ wx.cell? ⟨g, o + 4, none⟩ = some (.int .i64 r1a.r) ∧ wx.cell? ⟨g, o + 5, none⟩ = some (.bool r1a.fc) ∧ wx.cell? ⟨g, o + 6, none⟩ = some (.bool r1a.fr) ∧ wx.cell? ⟨g, o + 7, none⟩ = some (.int .i64 r1b.c) ∧ wx.cell? ⟨g, o + 8, none⟩ = some (.int .i64 r1b.r) ∧ wx.cell? ⟨g, o + 9, none⟩ = some (.bool r1b.fc) ∧ wx.cell? ⟨g, o + 10, none⟩ = some (.bool r1b.fr) ∧ wx.cell? ⟨g, o + 11, none⟩ = some (v1)) (first | exact K7.out _ hk0 | exact K7.out _ k4) (first | (go_at_call 143; refine (HA.out _ hk0 hWd).mono ?_; rintro e w4 ⟨rfl, h4, k4⟩))
  have k4d := HDR.out _ k4
  have h4d := h4.drew
  clear K7 HA hk0 hWd h4 k4
  go_wp2_with fail
  go_region_held3 (fun wx => wx.cell? ⟨w.heap.size, 0, none⟩ = some (ptr wb) ∧ wx.cell? ⟨w.heap.size + 1, 1, none⟩ = some (.int .i64 op) ∧ wx.cell? ⟨0, op * 2, none⟩ = some (.string (opTxt op))) (first | exact K8.out _ k4d | exact K8.out _ k5) (first | (go_at_call 102; with_reducible refine (HO.out _ k4d h4d).mono ?_; rintro e w5 ⟨rfl, h5, k5⟩))
  have k5d := HDR.out _ k5
  have h5d := h5.drew
  clear K8 HO k4d h4d h5 k5
  go_wp2_with fail
  go_region_held3 (fun wx => wx.cell? ⟨w.heap.size, 0, none⟩ = some (ptr wb) ∧ wx.cell? ⟨w.heap.size + 1, 11, none⟩ = some (.slice (some ⟨g, o, none⟩) 2 c) ∧ wx.cell? ⟨g, o + 12, none⟩ = some (.int .i64 k2) ∧ wx.cell? ⟨g, o + 12 + 1, none⟩ = some (.int .i64 n2) ∧ wx.cell? ⟨g, o + 12 + 2, none⟩ = some (.string s2) ∧ wx.cell? ⟨g, o + 12 + 3, none⟩ = some (.int .i64 r2a.c) ∧ wx.cell? ⟨g, o + 12 + 4, none⟩ = some (.int .i64 r2a.r) ∧ wx.cell? ⟨g, o + 12 + 5, none⟩ = some (.bool r2a.fc) ∧ wx.cell? ⟨g, o + 12 + 6, none⟩ = some (.bool r2a.fr) ∧ wx.cell? ⟨g, o + 12 + 7, none⟩ = some (.int .i64 r2b.c) ∧ wx.cell? ⟨g, o + 12 + 8, none⟩ = some (.int .i64 r2b.r) ∧ wx.cell? ⟨g, o + 12 + 9, none⟩ = some (.bool r2b.fc) ∧ wx.cell? ⟨g, o + 12 + 10, none⟩ = some (.bool r2b.fr) ∧ wx.cell? ⟨g, o + 12 + 11, none⟩ = some (v2) ∧ wx.cell? ⟨g, o + 13, none⟩ = some (.int .i64 n2) ∧ wx.cell? ⟨g, o + 14, none⟩ = some (.string s2) ∧ wx.cell? ⟨g, o + 15, none⟩ = some (.int .i64 r2a.c) ∧ wx.cell? ⟨g, o + 16, none⟩ = some (.int .i64 r2a.r) ∧ wx.cell? ⟨g, o + 17, none⟩ = some (.bool r2a.fc) ∧ wx.cell? ⟨g, o + 18, none⟩ = some (.bool r2a.fr) ∧ wx.cell? ⟨g, o + 19, none⟩ = some (.int .i64 r2b.c) ∧ wx.cell? ⟨g, o + 20, none⟩ = some (.int .i64 r2b.r) ∧ wx.cell? ⟨g, o + 21, none⟩ = some (.bool r2b.fc) ∧ wx.cell? ⟨g, o + 22, none⟩ = some (.bool r2b.fr) ∧ wx.cell? ⟨g, o + 23, none⟩ = some (v2)) (first | exact K9.out _ k5d | exact K9.out _ k6) (first | (go_at_call 143; with_reducible refine (HBB.out _ k5d h5d).mono ?_; rintro e w6 ⟨rfl, h6, k6⟩))
  go_wp2_with fail
  go_end0
  refine ⟨rfl, ?_, HK.out.trans k6⟩
  rw [show max m (d + max da db) = max (max m (d + da)) (d + db) from by omega]
  simpa using h6
end Go.Proofs.YtoebppmagkijjaaGreatDoor.fm
