/- Package eval: an argument that is a box. Conditions: as each theorem says. -/
import Derived.Test.YtoebppmagkijjaaGreatDoorLx
import Derived.Test.YtoebppmagkijjaaGreatDoorEp
namespace Go.Proofs.YtoebppmagkijjaaGreatDoor.ev
open Go.RowKit
theorem cells5v {w : World} {b : Nat} {a0 a1 a2 a3 a4 : Value} {t : TypeId} (h : w.heap[b]? = some (.cells #[a0, a1, a2, a3, a4] t (0, 0))) : w.cell? ⟨b, 0, none⟩ = some a0 ∧ w.cell? ⟨b, 1, none⟩ = some a1 ∧ w.cell? ⟨b, 2, none⟩ = some a2 ∧ w.cell? ⟨b, 3, none⟩ = some a3 ∧ w.cell? ⟨b, 4, none⟩ = some a4 := by
  simp [World.cell?, h]
theorem fin5 {w : World} {b : Nat} {a0 a1 a2 a3 a4 u0 u1 u2 u3 u4 : Value} {t : TypeId} (h : w.heap[b]? = some (.cells #[a0, a1, a2, a3, a4] t (0, 0))) {Q : World → Prop}
    (hq : ∀ w2, w2.heap[b]? = some (.cells #[u0, u1, u2, u3, u4] t (0, 0)) → (∀ B, B ≤ b → Below B w w2) → (∀ i, i ≠ b → w2.heap[i]? = w.heap[i]?) → Q w2) : Q (((((w.setCell ⟨b, 0, none⟩ u0).setCell ⟨b, 1, none⟩ u1).setCell ⟨b, 2, none⟩ u2).setCell ⟨b, 3, none⟩ u3).setCell ⟨b, 4, none⟩ u4) := by
  have h0 : (w.setCell ⟨b, 0, none⟩ u0).heap[b]? = some (.cells #[u0, a1, a2, a3, a4] t (0, 0)) := by rw [fm.blk_set h]; rfl
  have h1 : ((w.setCell ⟨b, 0, none⟩ u0).setCell ⟨b, 1, none⟩ u1).heap[b]? = some (.cells #[u0, u1, a2, a3, a4] t (0, 0)) := by rw [fm.blk_set h0]; rfl
  have h2 : (((w.setCell ⟨b, 0, none⟩ u0).setCell ⟨b, 1, none⟩ u1).setCell ⟨b, 2, none⟩ u2).heap[b]? = some (.cells #[u0, u1, u2, a3, a4] t (0, 0)) := by rw [fm.blk_set h1]; rfl
  have h3 : ((((w.setCell ⟨b, 0, none⟩ u0).setCell ⟨b, 1, none⟩ u1).setCell ⟨b, 2, none⟩ u2).setCell ⟨b, 3, none⟩ u3).heap[b]? = some (.cells #[u0, u1, u2, u3, a4] t (0, 0)) := by rw [fm.blk_set h2]; rfl
  have h4 : (((((w.setCell ⟨b, 0, none⟩ u0).setCell ⟨b, 1, none⟩ u1).setCell ⟨b, 2, none⟩ u2).setCell ⟨b, 3, none⟩ u3).setCell ⟨b, 4, none⟩ u4).heap[b]? = some (.cells #[u0, u1, u2, u3, u4] t (0, 0)) := by rw [fm.blk_set h3]; rfl
  exact hq _ h4 (fun B hB => (((((Below.refl _ _).setCell hB _).setCell hB _).setCell hB _).setCell hB _).setCell hB _) (fun i hi => by rw [blk_else hi, blk_else hi, blk_else hi, blk_else hi, blk_else hi])
set_option maxRecDepth 100000 in
set_option maxHeartbeats 1600000 in
theorem grid_any {w0 : World} {P : Nat → Prop} {p : Option Addr} {q c : Nat} {us : List Value} {ts : List fm.T} (hk : fm.Kids w0 P p q c us) (hl : us.length = ts.length) (hs : ∀ (i : Nat) u t', us[i]? = some u → ts[i]? = some t' → fm.Nd w0 P u t') (mb : Option Nat) (i : Nat) (hi : i < q)
    (r t : fm.Rf) (p1 : Option Addr) (m1 q1 : Nat) (hu0 : us[i]? = some (fm.NV 6 0 nul r t (.slice p1 m1 q1))) (hr : adr.isC r.c r.r = true) (ht : adr.isC t.c t.r = true) (w : World) (hb : Below w0.heap.size w0 w) :
    Calls Tryz.prog 266 #[.agg #[.map mb, .slice p q c], .int .i64 i] w fun e w' => e = .returned (.tuple #[.agg #[.map mb, .int .i64 (min r.c t.c), .int .i64 (min r.r t.r), .int .i64 (max r.c t.c), .int .i64 (max r.r t.r)], .bool true]) ∧ Below w.heap.size w w' := by
  obtain ⟨g, o, u, t1, rfl, hg, hu, ht1, hcc⟩ := fm.kid_at hk hl hs i hi
  rw [hu0] at hu
  obtain rfl := Option.some.inj hu
  have HBX : Hid (∀ wx, Calls Tryz.prog 288 #[.agg #[.int .i64 r.c, .int .i64 r.r], .agg #[.int .i64 t.c, .int .i64 t.r]] wx fun e w' => e = .returned (.tuple #[.agg #[.int .i64 (min r.c t.c), .int .i64 (min r.r t.r), .int .i64 (max r.c t.c), .int .i64 (max r.r t.r)], .nilIface]) ∧ Below wx.heap.size wx w') := fun wx => by
    have := adr.box_any r.c r.r t.c t.r wx
    rw [hr, ht] at this
    exact this
  have hgw : g < w.heap.size := Nat.lt_of_lt_of_le hg hb.size
  have hbW : Below w.heap.size w ((w.alloc (.cells #[.map mb, .slice (some ⟨g, o, none⟩) q c] 123)).alloc (.cells #[.map none, .int .i64 0, .int .i64 0, .int .i64 0, .int .i64 0] 185)) := ((Below.refl _ _).alloc (Nat.le_refl _) _).alloc (by simp) _
  obtain ⟨hA, hR⟩ := two_new w (.cells #[.map mb, .slice (some ⟨g, o, none⟩) q c] 123) (.cells #[.map none, .int .i64 0, .int .i64 0, .int .i64 0, .int .i64 0] 185)
  have e1 : ∀ jj x, (fm.NV 6 0 nul r t (.slice p1 m1 q1)).cells.toList[jj]? = some x → ((w.alloc (.cells #[.map mb, .slice (some ⟨g, o, none⟩) q c] 123)).alloc (.cells #[.map none, .int .i64 0, .int .i64 0, .int .i64 0, .int .i64 0] 185)).cell? ⟨g, o + i * 12 + jj, none⟩ = some x := fun jj x hx => by rw [hbW.cell (p := ⟨g, _, none⟩) hgw, hb.cell (p := ⟨g, _, none⟩) hg]; exact hcc jj x hx
  have m0 : ((w.alloc (.cells #[.map mb, .slice (some ⟨g, o, none⟩) q c] 123)).alloc (.cells #[.map none, .int .i64 0, .int .i64 0, .int .i64 0, .int .i64 0] 185)).cell? ⟨w.heap.size, 0, none⟩ = some (.map mb) := by rw [World.cell?]; simp [hA]
  have m2 : ((w.alloc (.cells #[.map mb, .slice (some ⟨g, o, none⟩) q c] 123)).alloc (.cells #[.map none, .int .i64 0, .int .i64 0, .int .i64 0, .int .i64 0] 185)).cell? ⟨w.heap.size, 1, none⟩ = some (.slice (some ⟨g, o, none⟩) q c) := by rw [World.cell?]; simp [hA]
  have x0 := e1 0 _ rfl
  have x1 := e1 1 _ rfl
  have x2 := e1 2 _ rfl
  have x3 := e1 3 _ rfl
  have x4 := e1 4 _ rfl
  have x5 := e1 5 _ rfl
  have x6 := e1 6 _ rfl
  have x7 := e1 7 _ rfl
  have x8 := e1 8 _ rfl
  have x9 := e1 9 _ rfl
  have x10 := e1 10 _ rfl
  have x11 := e1 11 _ rfl
  simp only [Nat.add_zero] at x0
  have hlt' : (i : Int) < (q : Int) := by omega
  have hj' : (0 : Int) ≤ (i : Int) := by omega
  have HST : Hid (∀ wx, Below ((w.alloc (.cells #[.map mb, .slice (some ⟨g, o, none⟩) q c] 123)).alloc (.cells #[.map none, .int .i64 0, .int .i64 0, .int .i64 0, .int .i64 0] 185)).heap.size ((w.alloc (.cells #[.map mb, .slice (some ⟨g, o, none⟩) q c] 123)).alloc (.cells #[.map none, .int .i64 0, .int .i64 0, .int .i64 0, .int .i64 0] 185)) wx → wx.heap[w.heap.size]? = some (.cells #[.map mb, .slice (some ⟨g, o, none⟩) q c] 123 (0, 0)) ∧ wx.heap[w.heap.size + 1]? = some (.cells #[.map none, .int .i64 0, .int .i64 0, .int .i64 0, .int .i64 0] 185 (0, 0)) ∧ Below w.heap.size w wx) := fun wx h => ⟨(h.block _ (fm.lt_blk hA)).trans hA, (h.block _ (fm.lt_blk hR)).trans hR, bnext hbW h hbW.size⟩
  clear hA hR hbW e1 hcc hk hl hs hb ht1 hu hu0 hr ht
  go_enter Tryz.func266, Tryz.ntmps266
  go_wp2_with fail
  refine (HBX.out _).mono ?_
  clear x0 x1 x2 x3 x4 x5 x6 x7 x8 x9 x10 x11 m0 m2
  rintro e w1 ⟨rfl, hb1⟩
  obtain ⟨V1, hV⟩ : ∃ V1, V1 = w1.alloc (.cells #[.int .i64 (min r.c t.c), .int .i64 (min r.r t.r), .int .i64 (max r.c t.c), .int .i64 (max r.r t.r)] 90) := ⟨_, rfl⟩
  have hbv : Below w1.heap.size w1 V1 := by rw [hV]; exact (Below.refl _ _).alloc (Nat.le_refl _) _
  have hb3 : Below ((w.alloc (.cells #[.map mb, .slice (some ⟨g, o, none⟩) q c] 123)).alloc (.cells #[.map none, .int .i64 0, .int .i64 0, .int .i64 0, .int .i64 0] 185)).heap.size ((w.alloc (.cells #[.map mb, .slice (some ⟨g, o, none⟩) q c] 123)).alloc (.cells #[.map none, .int .i64 0, .int .i64 0, .int .i64 0, .int .i64 0] 185)) w1 := bnext ((Below.refl _ _).alloc (Nat.le_refl _) _) hb1 (by simp)
  obtain ⟨hc1, hr1, hbl⟩ := HST.out V1 (bnext hb3 hbv hb3.size)
  have hv1 : V1.heap[w1.heap.size]? = some (.cells #[.int .i64 (min r.c t.c), .int .i64 (min r.r t.r), .int .i64 (max r.c t.c), .int .i64 (max r.r t.r)] 90 (0, 0)) := by rw [hV]; exact heap_alloc_new _ _
  have m0 : V1.cell? ⟨w.heap.size, 0, none⟩ = some (.map mb) := by simp [World.cell?, hc1]
  obtain ⟨⟨y0, y1, y2, y3⟩, -⟩ := adr.cells_four hv1
  obtain ⟨c0, c1, c2, c3, c4⟩ := cells5v hr1
  have f0 : ∀ o, V1.frozen? ⟨w.heap.size + 1, o, none⟩ = false := frz hr1
  have HQ1 : Hid (V1.heap[w.heap.size + 1]? = some (.cells #[.map none, .int .i64 0, .int .i64 0, .int .i64 0, .int .i64 0] 185 (0, 0))) := hr1
  have HB : Hid (Below w.heap.size w V1) := hbl
  have HVV : Hid (w1.alloc (.cells #[.int .i64 (min r.c t.c), .int .i64 (min r.r t.r), .int .i64 (max r.c t.c), .int .i64 (max r.r t.r)] 90) = V1) := hV.symm
  rw [hV] at m0 y0 y1 y2 y3 c0 c1 c2 c3 c4 f0
  clear hb1 hbv hb3 hc1 hr1 hbl hv1 hV HST HBX
  go_wp2_with fail
  go_region
  all_goals
    go_wp2_with fail
    rw [HVV.out] at *
    refine fin5 (w := World.drew V1) (t := 185) HQ1.out (Q := bodyPost _ _ _ _ _) ?_
    clear c0 c1 c2 c3 c4 f0
    intro w4 hq4 hk4 he4
    obtain ⟨d0, d1, d2, d3, d4⟩ := cells5v hq4
    exact bodyPost_ret (v := .tuple #[.agg #[.map mb, .int .i64 (min r.c t.c), .int .i64 (min r.r t.r), .int .i64 (max r.c t.c), .int .i64 (max r.r t.r)], .bool true]) (by simp [results, Tryz.results266, go_sem, d0, d1, d2, d3, d4]) rfl ⟨rfl, HB.out.drew.trans (hk4 _ (by omega))⟩
end Go.Proofs.YtoebppmagkijjaaGreatDoor.ev
/- Package eval: all arguments of a call are worked out, boxes among them. Conditions: as each theorem says. -/
namespace Go.Proofs.YtoebppmagkijjaaGreatDoor.ev
open Go.RowKit
section
variable {mb : Option Nat} {G : Nat → Nat → Int} {k m : Nat → Int} {z : Nat → ByteArray} {L : ByteArray} {cs : Nat → Nat → Value} {j n : Nat}
theorem g_next (h : (∀ i (h : i < L.size), i < j → L[i].toNat = 98 → (cs i 5 = .map mb ∧ cs i 6 = .int .i64 (G i 0) ∧ cs i 7 = .int .i64 (G i 1) ∧ cs i 8 = .int .i64 (G i 2) ∧ cs i 9 = .int .i64 (G i 3)))) : (∀ i (h : i < L.size), i < (j + 1) → L[i].toNat = 98 → ((csSet (csSet (csSet (csSet (csSet cs j 5 (.map mb)) j 6 (.int .i64 (G j 0))) j 7 (.int .i64 (G j 1))) j 8 (.int .i64 (G j 2))) j 9 (.int .i64 (G j 3))) i 5 = .map mb ∧ (csSet (csSet (csSet (csSet (csSet cs j 5 (.map mb)) j 6 (.int .i64 (G j 0))) j 7 (.int .i64 (G j 1))) j 8 (.int .i64 (G j 2))) j 9 (.int .i64 (G j 3))) i 6 = .int .i64 (G i 0) ∧ (csSet (csSet (csSet (csSet (csSet cs j 5 (.map mb)) j 6 (.int .i64 (G j 0))) j 7 (.int .i64 (G j 1))) j 8 (.int .i64 (G j 2))) j 9 (.int .i64 (G j 3))) i 7 = .int .i64 (G i 1) ∧ (csSet (csSet (csSet (csSet (csSet cs j 5 (.map mb)) j 6 (.int .i64 (G j 0))) j 7 (.int .i64 (G j 1))) j 8 (.int .i64 (G j 2))) j 9 (.int .i64 (G j 3))) i 8 = .int .i64 (G i 2) ∧ (csSet (csSet (csSet (csSet (csSet cs j 5 (.map mb)) j 6 (.int .i64 (G j 0))) j 7 (.int .i64 (G j 1))) j 8 (.int .i64 (G j 2))) j 9 (.int .i64 (G j 3))) i 9 = .int .i64 (G i 3))) := by
  intro i hi hij hl
  by_cases e : i = j
  · subst e; simp [csSet]
  · have := h i hi (by omega) hl
    simp only [csSet, e, false_and, if_false]
    exact this
theorem g_skip (hj : ∀ h : j < L.size, L[j].toNat ≠ 98) (h : (∀ i (h : i < L.size), i < j → L[i].toNat = 98 → (cs i 5 = .map mb ∧ cs i 6 = .int .i64 (G i 0) ∧ cs i 7 = .int .i64 (G i 1) ∧ cs i 8 = .int .i64 (G i 2) ∧ cs i 9 = .int .i64 (G i 3)))) : (∀ i (h : i < L.size), i < (j + 1) → L[i].toNat = 98 → (cs i 5 = .map mb ∧ cs i 6 = .int .i64 (G i 0) ∧ cs i 7 = .int .i64 (G i 1) ∧ cs i 8 = .int .i64 (G i 2) ∧ cs i 9 = .int .i64 (G i 3))) := by
  intro i hi hij hl
  by_cases e : i = j
  · subst e; exact absurd hl (hj hi)
  · exact h i hi (by omega) hl
theorem v_next (h : (∀ i (h : i < L.size), i < j → L[i].toNat ≠ 98 → (cs i 0 = .int .i64 (k i) ∧ cs i 1 = .int .i64 (m i) ∧ cs i 2 = .string (z i)))) : (∀ i (h : i < L.size), i < (j + 1) → L[i].toNat ≠ 98 → ((csSet (csSet (csSet cs j 0 (.int .i64 (k j))) j 1 (.int .i64 (m j))) j 2 (.string (z j))) i 0 = .int .i64 (k i) ∧ (csSet (csSet (csSet cs j 0 (.int .i64 (k j))) j 1 (.int .i64 (m j))) j 2 (.string (z j))) i 1 = .int .i64 (m i) ∧ (csSet (csSet (csSet cs j 0 (.int .i64 (k j))) j 1 (.int .i64 (m j))) j 2 (.string (z j))) i 2 = .string (z i))) := by
  intro i hi hij hl
  by_cases e : i = j
  · subst e; simp [csSet]
  · have := h i hi (by omega) hl
    simp only [csSet, e, false_and, if_false]
    exact this
theorem v_skip (hj : ∀ h : j < L.size, L[j].toNat = 98) (h : (∀ i (h : i < L.size), i < j → L[i].toNat ≠ 98 → (cs i 0 = .int .i64 (k i) ∧ cs i 1 = .int .i64 (m i) ∧ cs i 2 = .string (z i)))) : (∀ i (h : i < L.size), i < (j + 1) → L[i].toNat ≠ 98 → (cs i 0 = .int .i64 (k i) ∧ cs i 1 = .int .i64 (m i) ∧ cs i 2 = .string (z i))) := by
  intro i hi hij hl
  by_cases e : i = j
  · subst e; exact absurd (hj hi) hl
  · exact h i hi (by omega) hl
theorem g_keep {a t : Nat} {u : Value} (ht : t < 5) (h : (∀ i (h : i < L.size), i < n → L[i].toNat = 98 → (cs i 5 = .map mb ∧ cs i 6 = .int .i64 (G i 0) ∧ cs i 7 = .int .i64 (G i 1) ∧ cs i 8 = .int .i64 (G i 2) ∧ cs i 9 = .int .i64 (G i 3)))) : (∀ i (h : i < L.size), i < n → L[i].toNat = 98 → ((csSet cs a t u) i 5 = .map mb ∧ (csSet cs a t u) i 6 = .int .i64 (G i 0) ∧ (csSet cs a t u) i 7 = .int .i64 (G i 1) ∧ (csSet cs a t u) i 8 = .int .i64 (G i 2) ∧ (csSet cs a t u) i 9 = .int .i64 (G i 3))) := by
  intro i hi hij hl
  rw [csSet_other _ _ (by omega), csSet_other _ _ (by omega), csSet_other _ _ (by omega), csSet_other _ _ (by omega), csSet_other _ _ (by omega)]
  exact h i hi hij hl
theorem v_keep {a t : Nat} {u : Value} (ht : 3 ≤ t) (h : (∀ i (h : i < L.size), i < n → L[i].toNat ≠ 98 → (cs i 0 = .int .i64 (k i) ∧ cs i 1 = .int .i64 (m i) ∧ cs i 2 = .string (z i)))) : (∀ i (h : i < L.size), i < n → L[i].toNat ≠ 98 → ((csSet cs a t u) i 0 = .int .i64 (k i) ∧ (csSet cs a t u) i 1 = .int .i64 (m i) ∧ (csSet cs a t u) i 2 = .string (z i))) := by
  intro i hi hij hl
  rw [csSet_other _ _ (by omega), csSet_other _ _ (by omega), csSet_other _ _ (by omega)]
  exact h i hi hij hl
theorem d_skip (hj : ∀ h : j < L.size, L[j].toNat ≠ 110 ∧ L[j].toNat ≠ 116) (h : (∀ i (h : i < L.size), i < j → (L[i].toNat = 110 → cs i 3 = .int .i64 (m i)) ∧ (L[i].toNat = 116 → cs i 4 = .string (z i)))) : (∀ i (h : i < L.size), i < (j + 1) → (L[i].toNat = 110 → cs i 3 = .int .i64 (m i)) ∧ (L[i].toNat = 116 → cs i 4 = .string (z i))) := by
  intro i hi hij
  by_cases e : i = j
  · subst e; exact ⟨fun q => absurd q (hj hi).1, fun q => absurd q (hj hi).2⟩
  · exact h i hi (by omega)
end
set_option maxRecDepth 100000 in
set_option maxHeartbeats 8000000 in
theorem arguments2_any (mb : Option Nat) (pk : Option Addr) (n c : Nat) (L : ByteArray) (w : World) (hn : n ≤ 3) (hL : L.size = n) (k m : Nat → Int) (z : Nat → ByteArray) (G : Nat → Nat → Int)
    (hl : ∀ i (h : i < L.size), L[i].toNat = 116 ∨ L[i].toNat = 110 ∨ L[i].toNat = 118 ∨ L[i].toNat = 98) (hk : ∀ i (h : i < L.size), (L[i].toNat = 116 → k i = 2) ∧ (L[i].toNat = 110 → k i = 1) ∧ k i ≠ 4)
    (HV : Hid (∀ i (h : i < L.size) wx, L[i].toNat ≠ 98 → Below w.heap.size w wx → Calls Tryz.prog 243 #[.agg #[.map mb, .slice pk n c], .int .i64 i] wx fun e w' => e = .returned (VV (k i) (m i) (z i)) ∧ Below wx.heap.size wx w'))
    (HG : Hid (∀ i (h : i < L.size) wx, L[i].toNat = 98 → Below w.heap.size w wx → Calls Tryz.prog 266 #[.agg #[.map mb, .slice pk n c], .int .i64 i] wx fun e w' => e = .returned (.tuple #[.agg #[.map mb, .int .i64 (G i 0), .int .i64 (G i 1), .int .i64 (G i 2), .int .i64 (G i 3)], .bool true]) ∧ Below wx.heap.size wx w')) :
    Calls Tryz.prog 246 #[.agg #[.map mb, .slice pk n c], .string L] w fun e w' => ∃ A cs, e = .returned (.tuple #[.slice (some ⟨A, 0, none⟩) n n, VV 0 0 nul]) ∧ AB w' A n cs ∧
      (∀ i (h : i < L.size), (L[i].toNat = 98 → (cs i 5 = .map mb ∧ cs i 6 = .int .i64 (G i 0) ∧ cs i 7 = .int .i64 (G i 1) ∧ cs i 8 = .int .i64 (G i 2) ∧ cs i 9 = .int .i64 (G i 3))) ∧ (L[i].toNat ≠ 98 → (cs i 0 = .int .i64 (k i) ∧ cs i 1 = .int .i64 (m i) ∧ cs i 2 = .string (z i))) ∧ (L[i].toNat = 110 → cs i 3 = .int .i64 (m i)) ∧ (L[i].toNat = 116 → cs i 4 = .string (z i))) ∧ Below w.heap.size w w' := by
  have hm := make_args n (by omega) ((w.alloc (.cells #[.map mb, .slice pk n c] 123)).alloc (.cells #[.int .i64 0, .int .i64 0, .string nul] 31))
  have hS0 := AR.start w (.map mb) pk n c
  have HL : Hid (∀ i (h : i < L.size), L[i].toNat = 116 ∨ L[i].toNat = 110 ∨ L[i].toNat = 118 ∨ L[i].toNat = 98) := hl
  have HKK : Hid (∀ i (h : i < L.size), (L[i].toNat = 116 → k i = 2) ∧ (L[i].toNat = 110 → k i = 1) ∧ k i ≠ 4) := hk
  clear hl hk
  go_enter Tryz.func246, Tryz.ntmps246
  go_wp2_with fail
  clear hm
  generalize (((w.alloc (.cells #[.map mb, .slice pk n c] 123)).alloc (.cells #[.int .i64 0, .int .i64 0, .string nul] 31)).alloc (.cells (madeCells Z10 (n * 10)) 187)) = W0 at *
  go_loopw [4, 17] (fun a i wr => ∃ (j : Nat) (cs : Nat → Nat → Value), i = .int .i64 j ∧ j ≤ n ∧ a = .slice (some ⟨w.heap.size + 1 + 1, 0, none⟩) n n ∧ AR w (.map mb) pk n c cs wr ∧ (∀ i (h : i < L.size), i < j → L[i].toNat = 98 → (cs i 5 = .map mb ∧ cs i 6 = .int .i64 (G i 0) ∧ cs i 7 = .int .i64 (G i 1) ∧ cs i 8 = .int .i64 (G i 2) ∧ cs i 9 = .int .i64 (G i 3)))) (fun _ i _ => n - (intOf i).toNat)
  case atStart => exact ⟨0, _, rfl, Nat.zero_le _, rfl, hS0, fun i _ hi => absurd hi (Nat.not_lt_zero _)⟩
  case round =>
    clear hS0
    obtain ⟨j, cs, rfl, hj, rfl, hS, hg⟩ := hrel
    have HS : Hid (AR w (.map mb) pk n c cs wr) := hS
    have HGG : Hid (∀ i (h : i < L.size), i < j → L[i].toNat = 98 → (cs i 5 = .map mb ∧ cs i 6 = .int .i64 (G i 0) ∧ cs i 7 = .int .i64 (G i 1) ∧ cs i 8 = .int .i64 (G i 2) ∧ cs i 9 = .int .i64 (G i 3))) := hg
    by_cases hlt : j < n
    · have hlt' : (j : Int) < (n : Int) := by omega
      have hls : j < L.size := by omega
      have hls' : (j : Int) < (L.size : Int) := by omega
      have hj0 : (0 : Int) ≤ (j : Int) := by omega
      have m0 : wr.cell? ⟨w.heap.size, 0, none⟩ = some (.map mb) := by simp [World.cell?, hS.c]
      have m1 : wr.cell? ⟨w.heap.size, 1, none⟩ = some (.slice pk n c) := by simp [World.cell?, hS.c]
      clear hS hg
      rcases HL.out j hls with e | e | e | e
      · go_wp2_with fail
        exact ⟨⟨j + 1, cs, by simp, hlt, rfl, HS.out, g_skip (fun _ => by omega) HGG.out⟩, by simp [intOf]; omega⟩
      · go_wp2_with fail
        exact ⟨⟨j + 1, cs, by simp, hlt, rfl, HS.out, g_skip (fun _ => by omega) HGG.out⟩, by simp [intOf]; omega⟩
      · go_wp2_with fail
        exact ⟨⟨j + 1, cs, by simp, hlt, rfl, HS.out, g_skip (fun _ => by omega) HGG.out⟩, by simp [intOf]; omega⟩
      · go_wp2_with fail
        refine (HG.out j hls _ e HS.out.below).mono ?_
        clear m0 m1
        rintro e1 w1 ⟨rfl, hb1⟩
        obtain ⟨V1, hV⟩ : ∃ V1, V1 = w1.alloc (.cells #[.map mb, .int .i64 (G j 0), .int .i64 (G j 1), .int .i64 (G j 2), .int .i64 (G j 3)] 185) := ⟨_, rfl⟩
        have hbv : Below w1.heap.size w1 V1 := by rw [hV]; exact (Below.refl _ _).alloc (Nat.le_refl _) _
        have hS1 := (HS.out.next hb1).next hbv
        have hv1 : V1.heap[w1.heap.size]? = some (.cells #[.map mb, .int .i64 (G j 0), .int .i64 (G j 1), .int .i64 (G j 2), .int .i64 (G j 3)] 185 (0, 0)) := by rw [hV]; exact heap_alloc_new _ _
        obtain ⟨y0, y1, y2, y3, y4⟩ := cells5v hv1
        have x5 := hS1.ab.cell hlt (j := 5) (by omega)
        have x6 := hS1.ab.cell hlt (j := 6) (by omega)
        have x7 := hS1.ab.cell hlt (j := 7) (by omega)
        have x8 := hS1.ab.cell hlt (j := 8) (by omega)
        have x9 := hS1.ab.cell hlt (j := 9) (by omega)
        have f0 := hS1.ab.frozen
        have HS2 : Hid (AR w (.map mb) pk n c (csSet (csSet (csSet (csSet (csSet cs j 5 (.map mb)) j 6 (.int .i64 (G j 0))) j 7 (.int .i64 (G j 1))) j 8 (.int .i64 (G j 2))) j 9 (.int .i64 (G j 3))) (((((V1.setCell ⟨w.heap.size + 1 + 1, j * 10 + 5, none⟩ (.map mb)).setCell ⟨w.heap.size + 1 + 1, j * 10 + 6, none⟩ (.int .i64 (G j 0))).setCell ⟨w.heap.size + 1 + 1, j * 10 + 7, none⟩ (.int .i64 (G j 1))).setCell ⟨w.heap.size + 1 + 1, j * 10 + 8, none⟩ (.int .i64 (G j 2))).setCell ⟨w.heap.size + 1 + 1, j * 10 + 9, none⟩ (.int .i64 (G j 3)))) := ((((hS1.set hlt (j := 5) (by omega) _).set hlt (j := 6) (by omega) _).set hlt (j := 7) (by omega) _).set hlt (j := 8) (by omega) _).set hlt (j := 9) (by omega) _
        have HVV : Hid (w1.alloc (.cells #[.map mb, .int .i64 (G j 0), .int .i64 (G j 1), .int .i64 (G j 2), .int .i64 (G j 3)] 185) = V1) := hV.symm
        rw [hV] at x5 x6 x7 x8 x9 f0 y0 y1 y2 y3 y4
        clear hS1 HS hb1 hbv hv1 hV
        go_wp2_with fail
        rw [HVV.out]
        exact ⟨⟨j + 1, _, by simp, hlt, rfl, HS2.out, g_next HGG.out⟩, by simp [intOf]; omega⟩
    · have hkn : n = j := by omega
      subst hkn
      clear hS hg
      go_wp2_with fail
      go_loopw [4, 41] (fun a i wr => ∃ (j : Nat) (cs : Nat → Nat → Value), i = .int .i64 j ∧ j ≤ n ∧ a = .slice (some ⟨w.heap.size + 1 + 1, 0, none⟩) n n ∧ AR w (.map mb) pk n c cs wr ∧ (∀ i (h : i < L.size), i < n → L[i].toNat = 98 → (cs i 5 = .map mb ∧ cs i 6 = .int .i64 (G i 0) ∧ cs i 7 = .int .i64 (G i 1) ∧ cs i 8 = .int .i64 (G i 2) ∧ cs i 9 = .int .i64 (G i 3))) ∧ (∀ i (h : i < L.size), i < j → L[i].toNat ≠ 98 → (cs i 0 = .int .i64 (k i) ∧ cs i 1 = .int .i64 (m i) ∧ cs i 2 = .string (z i)))) (fun _ i _ => n - (intOf i).toNat)
      case atStart => exact ⟨0, _, rfl, Nat.zero_le _, rfl, HS.out, HGG.out, fun i _ hi => absurd hi (Nat.not_lt_zero _)⟩
      case round =>
        clear HS HGG
        obtain ⟨j, cs, rfl, hj2, rfl, hS, hg, hv⟩ := hrel
        have HS : Hid (AR w (.map mb) pk n c cs wr) := hS
        have HGG : Hid (∀ i (h : i < L.size), i < n → L[i].toNat = 98 → (cs i 5 = .map mb ∧ cs i 6 = .int .i64 (G i 0) ∧ cs i 7 = .int .i64 (G i 1) ∧ cs i 8 = .int .i64 (G i 2) ∧ cs i 9 = .int .i64 (G i 3))) := hg
        have HVV : Hid (∀ i (h : i < L.size), i < j → L[i].toNat ≠ 98 → (cs i 0 = .int .i64 (k i) ∧ cs i 1 = .int .i64 (m i) ∧ cs i 2 = .string (z i))) := hv
        by_cases hlt : j < n
        · have hlt' : (j : Int) < (n : Int) := by omega
          have hls : j < L.size := by omega
          have hls' : (j : Int) < (L.size : Int) := by omega
          have hj0 : (0 : Int) ≤ (j : Int) := by omega
          have m0 : wr.cell? ⟨w.heap.size, 0, none⟩ = some (.map mb) := by simp [World.cell?, hS.c]
          have m1 : wr.cell? ⟨w.heap.size, 1, none⟩ = some (.slice pk n c) := by simp [World.cell?, hS.c]
          have HI : Hid (∀ wx, Calls Tryz.prog 170 #[VV (k j) (m j) (z j)] wx fun e w' => e = .returned (.bool false) ∧ Below wx.heap.size wx w') := fun wx => by
            have := isBad_any (k j) (m j) (z j) wx
            rw [show (k j == 4) = false from beq_eq_false_iff_ne.2 (HKK.out j hls).2.2] at this
            exact this
          clear hS hg hv
          by_cases e : L[j].toNat = 98
          · go_wp2_with fail
            exact ⟨⟨j + 1, cs, by simp, hlt, rfl, HS.out, HGG.out, v_skip (fun _ => e) HVV.out⟩, by simp [intOf]; omega⟩
          · have e98 : ¬ ((L[j].toNat : Nat) : Int) = 98 := by omega
            have e98b : ((((L[j].toNat : Nat) : Int) == 98)) = false := beq_eq_false_iff_ne.2 e98
            have e98c : ((((L[j].toNat : Nat) : Int) != 98)) = true := by simp [bne, e98b]
            have HVJ := HV.out j hls _ e HS.out.below
            go_wp2_with fail
            refine HVJ.mono ?_
            clear m0 m1
            rintro e1 w1 ⟨rfl, hb1⟩
            have hS1 := HS.out.next hb1
            have x0 := hS1.ab.cell hlt (j := 0) (by omega)
            have x1 := hS1.ab.cell hlt (j := 1) (by omega)
            have x2 := hS1.ab.cell hlt (j := 2) (by omega)
            have f0 := hS1.ab.frozen
            simp only [Nat.add_zero] at x0
            have HS1 : Hid (AR w (.map mb) pk n c cs w1) := hS1
            clear hS1 HS hb1
            go_wp2_with fail
            clear x0 x1 x2 f0
            have HS2 : Hid (AR w (.map mb) pk n c (csSet (csSet (csSet cs j 0 (.int .i64 (k j))) j 1 (.int .i64 (m j))) j 2 (.string (z j))) (((w1.setCell ⟨w.heap.size + 1 + 1, j * 10, none⟩ (.int .i64 (k j))).setCell ⟨w.heap.size + 1 + 1, j * 10 + 1, none⟩ (.int .i64 (m j))).setCell ⟨w.heap.size + 1 + 1, j * 10 + 2, none⟩ (.string (z j)))) := ((HS1.out.set hlt (j := 0) (by omega) _).set hlt (j := 1) (by omega) _).set hlt (j := 2) (by omega) _
            refine (HI.out _).mono ?_
            rintro e2 w2 ⟨rfl, hb2⟩
            have HS3 := HS2.out.next hb2
            clear HS2 hb2 HS1
            go_wp2_with fail
            exact ⟨⟨j + 1, _, by simp, hlt, rfl, HS3, g_keep (by omega) (g_keep (by omega) (g_keep (by omega) HGG.out)), v_next HVV.out⟩, by simp [intOf]; omega⟩
        · have hkn : n = j := by omega
          subst hkn
          clear hS hg hv
          go_wp2_with fail
          go_loopw [4, 69] (fun a i wr => ∃ (j : Nat) (cs : Nat → Nat → Value), i = .int .i64 j ∧ j ≤ n ∧ a = .slice (some ⟨w.heap.size + 1 + 1, 0, none⟩) n n ∧ AR w (.map mb) pk n c cs wr ∧ (∀ i (h : i < L.size), i < n → L[i].toNat = 98 → (cs i 5 = .map mb ∧ cs i 6 = .int .i64 (G i 0) ∧ cs i 7 = .int .i64 (G i 1) ∧ cs i 8 = .int .i64 (G i 2) ∧ cs i 9 = .int .i64 (G i 3))) ∧ (∀ i (h : i < L.size), i < n → L[i].toNat ≠ 98 → (cs i 0 = .int .i64 (k i) ∧ cs i 1 = .int .i64 (m i) ∧ cs i 2 = .string (z i))) ∧ (∀ i (h : i < L.size), i < j → (L[i].toNat = 110 → cs i 3 = .int .i64 (m i)) ∧ (L[i].toNat = 116 → cs i 4 = .string (z i)))) (fun _ i _ => n - (intOf i).toNat)
          case atStart => exact ⟨0, cs, rfl, Nat.zero_le _, rfl, HS.out, HGG.out, HVV.out, fun i _ hi => absurd hi (Nat.not_lt_zero _)⟩
          case round =>
          clear HS HVV HGG
          obtain ⟨j, cs, rfl, hj2, rfl, hS, hg, hv, hd⟩ := hrel
          have HS : Hid (AR w (.map mb) pk n c cs wr) := hS
          have HGG : Hid (∀ i (h : i < L.size), i < n → L[i].toNat = 98 → (cs i 5 = .map mb ∧ cs i 6 = .int .i64 (G i 0) ∧ cs i 7 = .int .i64 (G i 1) ∧ cs i 8 = .int .i64 (G i 2) ∧ cs i 9 = .int .i64 (G i 3))) := hg
          have HVV : Hid (∀ i (h : i < L.size), i < n → L[i].toNat ≠ 98 → (cs i 0 = .int .i64 (k i) ∧ cs i 1 = .int .i64 (m i) ∧ cs i 2 = .string (z i))) := hv
          have HDD : Hid (∀ i (h : i < L.size), i < j → (L[i].toNat = 110 → cs i 3 = .int .i64 (m i)) ∧ (L[i].toNat = 116 → cs i 4 = .string (z i))) := hd
          by_cases hlt : j < n
          · have hlt' : (j : Int) < (n : Int) := by omega
            have hls : j < L.size := by omega
            have hls' : (j : Int) < (L.size : Int) := by omega
            have hj0 : (0 : Int) ≤ (j : Int) := by omega
            have x0 := hS.ab.cell hlt (j := 0) (by omega)
            have x1 := hS.ab.cell hlt (j := 1) (by omega)
            have x2 := hS.ab.cell hlt (j := 2) (by omega)
            simp only [Nat.add_zero] at x0
            clear hS hg hv hd
            rcases HL.out j hls with e | e | e | e
            · obtain ⟨v0, v1, v2⟩ := HVV.out j hls hlt (by omega)
              rw [v0, (HKK.out j hls).1 e] at x0
              rw [v1] at x1
              rw [v2] at x2
              clear v0 v1 v2
              have HN : Hid (∀ wx, Calls Tryz.prog 108 #[VV 2 (m j) (z j)] wx fun e w' => e = .returned (.string (z j)) ∧ Below wx.heap.size wx w') := fun wx => vshow (m j) (z j) wx
              go_wp2_with fail
              refine (HN.out _).mono ?_
              clear x0 x1 x2
              rintro e1 w1 ⟨rfl, hb1⟩
              have hS2 := HS.out.next hb1
              have x3 := hS2.ab.cell hlt (j := 4) (by omega)
              have f0 := hS2.ab.frozen
              have HS3 : Hid (AR w (.map mb) pk n c (csSet cs j 4 (.string (z j))) (w1.setCell ⟨w.heap.size + 1 + 1, j * 10 + 4, none⟩ (.string (z j)))) := hS2.set hlt (j := 4) (by omega) _
              clear hS2 hb1 HS HN
              go_wp2_with fail
              exact ⟨⟨j + 1, _, by simp, hlt, rfl, HS3.out, g_keep (by omega) HGG.out, v_keep (by omega) HVV.out, done_t (fun _ => e) HDD.out⟩, by simp [intOf]; omega⟩
            · obtain ⟨v0, v1, v2⟩ := HVV.out j hls hlt (by omega)
              rw [v0, (HKK.out j hls).2.1 e] at x0
              rw [v1] at x1
              rw [v2] at x2
              clear v0 v1 v2
              have HI : Hid (∀ wx, Calls Tryz.prog 170 #[VV 1 (m j) (z j)] wx fun e w' => e = .returned (.bool false) ∧ Below wx.heap.size wx w') := fun wx => isBad_any 1 (m j) (z j) wx
              have HN : Hid (∀ wx, Calls Tryz.prog 106 #[VV 1 (m j) (z j)] wx fun e w' => e = .returned (VV 1 (m j) (z j)) ∧ Below wx.heap.size wx w') := fun wx => vnumber (m j) (z j) wx
              go_wp2_with fail
              refine (HN.out _).mono ?_
              clear x0 x1 x2
              rintro e1 w1 ⟨rfl, hb1⟩
              have hS1 := (HS.out.next hb1).next ((Below.refl _ _).alloc (Nat.le_refl _) (.cells #[.int .i64 1, .int .i64 (m j), .string (z j)] 31))
              have HS1 : Hid (AR w (.map mb) pk n c cs (w1.alloc (.cells #[.int .i64 1, .int .i64 (m j), .string (z j)] 31))) := hS1
              have hv1 : (w1.alloc (.cells #[.int .i64 1, .int .i64 (m j), .string (z j)] 31)).heap[w1.heap.size]? = some (.cells #[.int .i64 1, .int .i64 (m j), .string (z j)] 31 (0, 0)) := heap_alloc_new _ _
              obtain ⟨y0, y1, y2⟩ := cells3v hv1
              have HV1 : Hid ((w1.alloc (.cells #[.int .i64 1, .int .i64 (m j), .string (z j)] 31)).heap[w1.heap.size]? = some (.cells #[.int .i64 1, .int .i64 (m j), .string (z j)] 31 (0, 0))) := hv1
              clear hS1 HS hb1 hv1 HN
              go_wp2_with fail
              refine (HI.out _).mono ?_
              clear y0 y1 y2
              rintro e2 w2 ⟨rfl, hb2⟩
              have hS2 := HS1.out.next hb2
              have hv2 := (hb2.block _ (fm.lt_blk HV1.out)).trans HV1.out
              obtain ⟨y0, y1, y2⟩ := cells3v hv2
              have x3 := hS2.ab.cell hlt (j := 3) (by omega)
              have f0 := hS2.ab.frozen
              have HS3 : Hid (AR w (.map mb) pk n c (csSet cs j 3 (.int .i64 (m j))) (w2.setCell ⟨w.heap.size + 1 + 1, j * 10 + 3, none⟩ (.int .i64 (m j)))) := hS2.set hlt (j := 3) (by omega) _
              clear hS2 hv2 hb2 HV1 HS1
              go_wp2_with fail
              exact ⟨⟨j + 1, _, by simp, hlt, rfl, HS3.out, g_keep (by omega) HGG.out, v_keep (by omega) HVV.out, done_n (fun _ => e) HDD.out⟩, by simp [intOf]; omega⟩
            · go_wp2_with fail
              exact ⟨⟨j + 1, cs, by simp, hlt, rfl, HS.out, HGG.out, HVV.out, d_skip (fun _ => by omega) HDD.out⟩, by simp [intOf]; omega⟩
            · go_wp2_with fail
              exact ⟨⟨j + 1, cs, by simp, hlt, rfl, HS.out, HGG.out, HVV.out, d_skip (fun _ => by omega) HDD.out⟩, by simp [intOf]; omega⟩
          · have hkn : n = j := by omega
            subst hkn
            obtain ⟨r0, r1, r2⟩ := cells3v hS.r
            have g0 : ∀ o, wr.frozen? ⟨w.heap.size + 1, o, none⟩ = false := frz hS.r
            clear hS hd hv hg
            go_wp2_with fail
            refine fin3e HS.out.r (Q := bodyPost _ _ _ _ _) ?_
            clear r0 r1 r2 g0
            intro w2 hq2 hk2 he2
            obtain ⟨d0, d1, d2⟩ := cells3v hq2
            exact bodyPost_ret (v := .tuple #[.slice (some ⟨w.heap.size + 1 + 1, 0, none⟩) n n, VV 0 0 nul]) (by simp [results, Tryz.results246, go_sem, d0, d1, d2]) rfl ⟨_, cs, rfl, ab_keep HS.out.ab he2 (by omega), fun i h => ⟨HGG.out i h (by omega), HVV.out i h (by omega), HDD.out i h (by omega)⟩, HS.out.below.trans (hk2 _ (by omega))⟩
end Go.Proofs.YtoebppmagkijjaaGreatDoor.ev
