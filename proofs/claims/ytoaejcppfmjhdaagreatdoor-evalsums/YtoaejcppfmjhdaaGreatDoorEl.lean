/- Package value, as far as texts and numbers are asked for. Conditions: as each theorem says. -/
import Derived.Test.YtoaejcppfmjhdaaGreatDoorEb
import Derived.Deep.RegionHeld3
import Derived.Test.YtoaejcppfmjhdaaGreatDoorEg
import Derived.Test.YtoaejcppfmjhdaaGreatDoorEi
import Derived.Laws.MakeOwn
namespace Go.Proofs.YtoaejcppfmjhdaaGreatDoor.ev
open Go.RowKit
theorem vnumber (n : Int) (s : ByteArray) (w : World) : Calls Tryz.prog 106 #[VV 1 n s] w fun e w' => e = .returned (VV 1 n s) ∧ Below w.heap.size w w' := by
  go_enter Tryz.func106, Tryz.ntmps106
  go_wp2_with fail
  exact bodyPost_ret (v := VV 1 n s) (by simp [results, Tryz.results106, go_sem]) rfl ⟨rfl, by (repeat (first | exact Below.refl _ _ | assumption | (refine Below.setCell ?_ (by first | omega | (simp <;> omega)) _) | (refine Below.alloc ?_ (by first | omega | (simp <;> omega)) _) | (refine Below.drew ?_)))⟩
theorem vshow (n : Int) (s : ByteArray) (w : World) : Calls Tryz.prog 108 #[VV 2 n s] w fun e w' => e = .returned (.string s) ∧ Below w.heap.size w w' := by
  go_enter Tryz.func108, Tryz.ntmps108
  go_wp2_with fail
  go_ret
  exact ⟨rfl, by (repeat (first | exact Below.refl _ _ | assumption | (refine Below.setCell ?_ (by first | omega | (simp <;> omega)) _) | (refine Below.alloc ?_ (by first | omega | (simp <;> omega)) _) | (refine Below.drew ?_)))⟩
theorem visT (s : ByteArray) (hs : (s.size : Int) ≤ 200) (w : World) : Calls Tryz.prog 73 #[VV 2 0 s] w fun e w' => e = .returned (.bool true) ∧ Below w.heap.size w w' := by
  go_enter Tryz.func73, Tryz.ntmps73
  go_wp2_with fail
  go_ret
  exact ⟨rfl, by (repeat (first | exact Below.refl _ _ | assumption | (refine Below.setCell ?_ (by first | omega | (simp <;> omega)) _) | (refine Below.alloc ?_ (by first | omega | (simp <;> omega)) _) | (refine Below.drew ?_)))⟩
theorem visN (n : Int) (w : World) : Calls Tryz.prog 73 #[VV 1 n nul] w fun e w' => e = .returned (.bool true) ∧ Below w.heap.size w w' := by
  go_enter Tryz.func73, Tryz.ntmps73
  go_wp2_with fail
  go_ret
  exact ⟨rfl, by (repeat (first | exact Below.refl _ _ | assumption | (refine Below.setCell ?_ (by first | omega | (simp <;> omega)) _) | (refine Below.alloc ?_ (by first | omega | (simp <;> omega)) _) | (refine Below.drew ?_)))⟩
theorem vcheckT (s : ByteArray) (hs : (s.size : Int) ≤ 200) (w : World) : Calls Tryz.prog 43 #[VV 2 0 s] w fun e w' => e = .returned .nilIface ∧ Below w.heap.size w w' := by
  have H : Hid (∀ wx, Calls Tryz.prog 73 #[VV 2 0 s] wx fun e w' => e = .returned (.bool true) ∧ Below wx.heap.size wx w') := fun wx => visT s hs wx
  go_enter Tryz.func43, Tryz.ntmps43
  go_wp2_with fail
  refine (H.out _).mono ?_
  rintro e w1 ⟨rfl, h1⟩
  go_wp2_with fail
  go_ret
  exact ⟨rfl, bnext ((Below.refl _ _).alloc (Nat.le_refl _) _) h1 (by simp)⟩
theorem vcheckN (n : Int) (w : World) : Calls Tryz.prog 43 #[VV 1 n nul] w fun e w' => e = .returned .nilIface ∧ Below w.heap.size w w' := by
  have H : Hid (∀ wx, Calls Tryz.prog 73 #[VV 1 n nul] wx fun e w' => e = .returned (.bool true) ∧ Below wx.heap.size wx w') := fun wx => visN n wx
  go_enter Tryz.func43, Tryz.ntmps43
  go_wp2_with fail
  refine (H.out _).mono ?_
  rintro e w1 ⟨rfl, h1⟩
  go_wp2_with fail
  go_ret
  exact ⟨rfl, bnext ((Below.refl _ _).alloc (Nat.le_refl _) _) h1 (by simp)⟩
theorem firstBadT (s t : ByteArray) (w : World) : Calls Tryz.prog 107 #[VV 2 0 s, VV 2 0 t] w fun e w' => e = .returned (.tuple #[VV 0 0 nul, .bool false]) ∧ Below w.heap.size w w' := by
  go_enter Tryz.func107, Tryz.ntmps107
  go_wp2_with fail
  exact bodyPost_ret (v := .tuple #[VV 0 0 nul, .bool false]) (by simp [results, Tryz.results107, go_sem]) rfl ⟨rfl, by (repeat (first | exact Below.refl _ _ | assumption | (refine Below.setCell ?_ (by first | omega | (simp <;> omega)) _) | (refine Below.alloc ?_ (by first | omega | (simp <;> omega)) _) | (refine Below.drew ?_)))⟩
end Go.Proofs.YtoaejcppfmjhdaaGreatDoor.ev
/- Package eval: all arguments of a call are worked out, each as its letter says. Conditions: as each theorem says. -/
namespace Go.Proofs.YtoaejcppfmjhdaaGreatDoor.ev
open Go.RowKit
abbrev Z10 : Array Value := #[.int .i64 0, .int .i64 0, .string nul, .int .i64 0, .string nul, .map none, .int .i64 0, .int .i64 0, .int .i64 0, .int .i64 0]
theorem info187 : (Tryz.prog.info? 187).map (fun i => (i.zero, i.size, i.bytes)) = some (some (.agg Z10), 10, 96) := by kernel_rfl
theorem make_args (n : Nat) (hn : n ≤ 1000) (w : World) : (Instr.makeSlice 183 (.int .i64 (n : Int)) (.int .i64 (n : Int))).run Tryz.prog w = .ok (.slice (some ⟨w.heap.size, 0, none⟩) n n) (w.alloc (.cells (madeCells Z10 (n * 10)) 187)) := by
  obtain ⟨i0, hi, hz0, hz1, hz2⟩ := info_parts info187
  have := run_make (P := Tryz.prog) w 183 187 i0 (.agg Z10) Tryz.underlying183 hi hz0 .i64 .i64 (n : Int) (n : Int) (by omega) (by omega) (by rw [hz2]; omega) (by omega)
  rw [this, hz1]
  simp [Value.cells]
def z10 (j : Nat) : Value := (Z10[j]?).getD undef
theorem made_at (n : Nat) (w : World) : AB (w.alloc (.cells (madeCells Z10 (n * 10)) 187)) w.heap.size n (fun _ j => z10 j) := by
  refine ⟨_, _, heap_alloc_new w _, by simp [madeCells], fun i j hi hj => ?_⟩
  have h1 : i * 10 + j < n * 10 := by omega
  have h2 : (i * 10 + j) % 10 = j := by omega
  have h3 : j < Z10.size := hj
  rw [madeCells, Array.getElem?_map, Array.getElem?_range, if_pos h1]
  show some (Z10[(i * 10 + j) % 10]!) = _
  rw [h2]
  show some (Z10[j]!) = some ((Z10[j]?).getD undef)
  rw [getElem!_pos Z10 j h3, Array.getElem?_eq_getElem h3]
  rfl
/-- What lies in memory while arguments are worked out: the call, the answer's block, the arguments. -/
structure AR (w : World) (M : Value) (pk : Option Addr) (n c : Nat) (cs : Nat → Nat → Value) (wx : World) : Prop where
  c : wx.heap[w.heap.size]? = some (.cells #[M, .slice pk n c] 123 (0, 0))
  r : wx.heap[w.heap.size + 1]? = some (.cells #[.int .i64 0, .int .i64 0, .string nul] 31 (0, 0))
  ab : AB wx (w.heap.size + 1 + 1) n cs
  below : Below w.heap.size w wx
theorem AR.next {w : World} {M : Value} {pk : Option Addr} {n c : Nat} {cs : Nat → Nat → Value} {wx wy : World} (h : AR w M pk n c cs wx) (hb : Below wx.heap.size wx wy) : AR w M pk n c cs wy :=
  ⟨(hb.block _ (fm.lt_blk h.c)).trans h.c, (hb.block _ (fm.lt_blk h.r)).trans h.r, h.ab.below hb, bnext h.below hb h.below.size⟩
theorem AR.set {w : World} {M : Value} {pk : Option Addr} {n c : Nat} {cs : Nat → Nat → Value} {wx : World} (h : AR w M pk n c cs wx) {i j : Nat} (hi : i < n) (hj : j < 10) (u : Value) : AR w M pk n c (csSet cs i j u) (wx.setCell ⟨w.heap.size + 1 + 1, i * 10 + j, none⟩ u) :=
  ⟨(blk_else (by omega)).trans h.c, (blk_else (by omega)).trans h.r, h.ab.set hi hj u, h.below.setCell (by simp; omega) _⟩
theorem AR.start (w : World) (M : Value) (pk : Option Addr) (n c : Nat) : AR w M pk n c (fun _ j => z10 j) (((w.alloc (.cells #[M, .slice pk n c] 123)).alloc (.cells #[.int .i64 0, .int .i64 0, .string nul] 31)).alloc (.cells (madeCells Z10 (n * 10)) 187)) := by
  obtain ⟨h1, h2⟩ := two_new w (.cells #[M, .slice pk n c] 123) (.cells #[.int .i64 0, .int .i64 0, .string nul] 31)
  have hb : Below ((w.alloc (.cells #[M, .slice pk n c] 123)).alloc (.cells #[.int .i64 0, .int .i64 0, .string nul] 31)).heap.size ((w.alloc (.cells #[M, .slice pk n c] 123)).alloc (.cells #[.int .i64 0, .int .i64 0, .string nul] 31)) (((w.alloc (.cells #[M, .slice pk n c] 123)).alloc (.cells #[.int .i64 0, .int .i64 0, .string nul] 31)).alloc (.cells (madeCells Z10 (n * 10)) 187)) := (Below.refl _ _).alloc (Nat.le_refl _) _
  refine ⟨(hb.block _ (fm.lt_blk h1)).trans h1, (hb.block _ (fm.lt_blk h2)).trans h2, ?_, (((Below.refl _ _).alloc (Nat.le_refl _) _).alloc (by simp) _).alloc (by simp; omega) _⟩
  have := made_at n ((w.alloc (.cells #[M, .slice pk n c] 123)).alloc (.cells #[.int .i64 0, .int .i64 0, .string nul] 31))
  simpa using this
theorem ab_keep {w w' : World} {A n b : Nat} {cs : Nat → Nat → Value} (h : AB w A n cs) (he : ∀ i, i ≠ b → w'.heap[i]? = w.heap[i]?) (hA : A ≠ b) : AB w' A n cs := by
  obtain ⟨arr, t, h1, h2⟩ := h
  exact ⟨arr, t, (he A hA).trans h1, h2⟩
theorem vals_next {k m : Nat → Int} {z : Nat → ByteArray} {cs : Nat → Nat → Value} {j : Nat} (h : ∀ i, i < j → cs i 0 = .int .i64 (k i) ∧ cs i 1 = .int .i64 (m i) ∧ cs i 2 = .string (z i)) :
    ∀ i, i < j + 1 → csSet (csSet (csSet cs j 0 (.int .i64 (k j))) j 1 (.int .i64 (m j))) j 2 (.string (z j)) i 0 = .int .i64 (k i) ∧ csSet (csSet (csSet cs j 0 (.int .i64 (k j))) j 1 (.int .i64 (m j))) j 2 (.string (z j)) i 1 = .int .i64 (m i) ∧ csSet (csSet (csSet cs j 0 (.int .i64 (k j))) j 1 (.int .i64 (m j))) j 2 (.string (z j)) i 2 = .string (z i) := by
  intro i hi
  by_cases e : i = j
  · subst e
    simp [csSet]
  · simp [csSet, e]
    exact h i (by omega)
theorem vals_keep {k m : Nat → Int} {z : Nat → ByteArray} {cs : Nat → Nat → Value} {j n t : Nat} {u : Value} (h : ∀ i, i < n → cs i 0 = .int .i64 (k i) ∧ cs i 1 = .int .i64 (m i) ∧ cs i 2 = .string (z i)) (ht : 3 ≤ t) :
    ∀ i, i < n → csSet cs j t u i 0 = .int .i64 (k i) ∧ csSet cs j t u i 1 = .int .i64 (m i) ∧ csSet cs j t u i 2 = .string (z i) := by
  intro i hi
  rw [csSet_other _ _ (by omega), csSet_other _ _ (by omega), csSet_other _ _ (by omega)]
  exact h i hi
theorem done_n {m : Nat → Int} {z : Nat → ByteArray} {cs : Nat → Nat → Value} {j : Nat} {L : ByteArray} (hj : ∀ h : j < L.size, L[j].toNat = 110) (h : ∀ i (h : i < L.size), i < j → (L[i].toNat = 110 → cs i 3 = .int .i64 (m i)) ∧ (L[i].toNat = 116 → cs i 4 = .string (z i))) :
    ∀ i (h : i < L.size), i < j + 1 → (L[i].toNat = 110 → csSet cs j 3 (.int .i64 (m j)) i 3 = .int .i64 (m i)) ∧ (L[i].toNat = 116 → csSet cs j 3 (.int .i64 (m j)) i 4 = .string (z i)) := by
  intro i hi hij
  by_cases e : i = j
  · subst e
    exact ⟨fun _ => csSet_same _ _ _ _, fun q => by rw [hj hi] at q; cases q⟩
  · rw [csSet_other _ _ (by omega), csSet_other _ _ (by omega)]
    exact h i hi (by omega)
theorem done_t {m : Nat → Int} {z : Nat → ByteArray} {cs : Nat → Nat → Value} {j : Nat} {L : ByteArray} (hj : ∀ h : j < L.size, L[j].toNat = 116) (h : ∀ i (h : i < L.size), i < j → (L[i].toNat = 110 → cs i 3 = .int .i64 (m i)) ∧ (L[i].toNat = 116 → cs i 4 = .string (z i))) :
    ∀ i (h : i < L.size), i < j + 1 → (L[i].toNat = 110 → csSet cs j 4 (.string (z j)) i 3 = .int .i64 (m i)) ∧ (L[i].toNat = 116 → csSet cs j 4 (.string (z j)) i 4 = .string (z i)) := by
  intro i hi hij
  by_cases e : i = j
  · subst e
    exact ⟨fun q => (by rw [hj hi] at q; cases q), fun _ => csSet_same _ _ _ _⟩
  · rw [csSet_other _ _ (by omega), csSet_other _ _ (by omega)]
    exact h i hi (by omega)
set_option maxRecDepth 100000 in
set_option maxHeartbeats 4000000 in
theorem arguments_any (M : Value) (pk : Option Addr) (n c : Nat) (L : ByteArray) (w : World) (hn : n ≤ 3) (hL : L.size = n) (k m : Nat → Int) (z : Nat → ByteArray)
    (hl : ∀ i (h : i < L.size), L[i].toNat = 116 ∨ L[i].toNat = 110) (hk : ∀ i (h : i < L.size), (L[i].toNat = 116 → k i = 2) ∧ (L[i].toNat = 110 → k i = 1))
    (HV : Hid (∀ i wx, i < n → Below w.heap.size w wx → Calls Tryz.prog 243 #[.agg #[M, .slice pk n c], .int .i64 i] wx fun e w' => e = .returned (VV (k i) (m i) (z i)) ∧ Below wx.heap.size wx w')) :
    Calls Tryz.prog 246 #[.agg #[M, .slice pk n c], .string L] w fun e w' => ∃ A cs, e = .returned (.tuple #[.slice (some ⟨A, 0, none⟩) n n, VV 0 0 nul]) ∧ AB w' A n cs ∧
      (∀ i (h : i < L.size), (L[i].toNat = 110 → cs i 3 = .int .i64 (m i)) ∧ (L[i].toNat = 116 → cs i 4 = .string (z i))) ∧ Below w.heap.size w w' := by
  have hm := make_args n (by omega) ((w.alloc (.cells #[M, .slice pk n c] 123)).alloc (.cells #[.int .i64 0, .int .i64 0, .string nul] 31))
  have hS0 := AR.start w M pk n c
  have HL : Hid (∀ i (h : i < L.size), L[i].toNat = 116 ∨ L[i].toNat = 110) := hl
  have HKK : Hid (∀ i (h : i < L.size), (L[i].toNat = 116 → k i = 2) ∧ (L[i].toNat = 110 → k i = 1)) := hk
  clear hl hk
  go_enter Tryz.func246, Tryz.ntmps246
  go_wp2_with fail
  clear hm
  generalize (((w.alloc (.cells #[M, .slice pk n c] 123)).alloc (.cells #[.int .i64 0, .int .i64 0, .string nul] 31)).alloc (.cells (madeCells Z10 (n * 10)) 187)) = W0 at *
  go_loopw [4, 17] (fun a i wr => ∃ j : Nat, i = .int .i64 j ∧ j ≤ n ∧ a = .slice (some ⟨w.heap.size + 1 + 1, 0, none⟩) n n ∧ wr = W0) (fun _ i _ => n - (intOf i).toNat)
  case atStart => exact ⟨0, rfl, Nat.zero_le _, rfl, rfl⟩
  case round =>
    obtain ⟨j, rfl, hj, rfl, rfl⟩ := hrel
    by_cases hlt : j < n
    · have hlt' : (j : Int) < (n : Int) := by omega
      have hls : j < L.size := by omega
      have hls' : (j : Int) < (L.size : Int) := by omega
      have hj0 : (0 : Int) ≤ (j : Int) := by omega
      rcases HL.out j hls with e | e
      · go_wp2_with fail
        exact ⟨⟨j + 1, by simp, hlt, rfl, trivial⟩, by simp [intOf]; omega⟩
      · go_wp2_with fail
        exact ⟨⟨j + 1, by simp, hlt, rfl, trivial⟩, by simp [intOf]; omega⟩
    · have hkn : n = j := by omega
      subst hkn
      go_wp2_with fail
      go_loopw [4, 41] (fun a i wr => ∃ (j : Nat) (cs : Nat → Nat → Value), i = .int .i64 j ∧ j ≤ n ∧ a = .slice (some ⟨w.heap.size + 1 + 1, 0, none⟩) n n ∧ AR w M pk n c cs wr ∧ ∀ i, i < j → cs i 0 = .int .i64 (k i) ∧ cs i 1 = .int .i64 (m i) ∧ cs i 2 = .string (z i)) (fun _ i _ => n - (intOf i).toNat)
      case atStart => exact ⟨0, _, rfl, Nat.zero_le _, rfl, hS0, fun i hi => absurd hi (Nat.not_lt_zero _)⟩
      case round =>
        clear hS0
        obtain ⟨j, cs, rfl, hj2, rfl, hS, hv⟩ := hrel
        by_cases hlt : j < n
        · have hlt' : (j : Int) < (n : Int) := by omega
          have hls : j < L.size := by omega
          have hls' : (j : Int) < (L.size : Int) := by omega
          have hj0 : (0 : Int) ≤ (j : Int) := by omega
          have m0 : wr.cell? ⟨w.heap.size, 0, none⟩ = some M := by simp [World.cell?, hS.c]
          have m1 : wr.cell? ⟨w.heap.size, 1, none⟩ = some (.slice pk n c) := by simp [World.cell?, hS.c]
          have HS : Hid (AR w M pk n c cs wr) := hS
          have HVV : Hid (∀ i, i < j → cs i 0 = .int .i64 (k i) ∧ cs i 1 = .int .i64 (m i) ∧ cs i 2 = .string (z i)) := hv
          clear hS hv
          rcases HL.out j hls with e | e
          · have HI : Hid (∀ wx, Calls Tryz.prog 170 #[VV (k j) (m j) (z j)] wx fun e w' => e = .returned (.bool false) ∧ Below wx.heap.size wx w') := fun wx => by
              have := isBad_any (k j) (m j) (z j) wx
              rw [show (k j == 4) = false from by rw [(HKK.out j hls).1 e]; rfl] at this
              exact this
            go_wp2_with fail
            refine (HV.out j _ hlt HS.out.below).mono ?_
            clear m0 m1
            rintro e1 w1 ⟨rfl, hb1⟩
            have hS1 := HS.out.next hb1
            have x0 := hS1.ab.cell hlt (j := 0) (by omega)
            have x1 := hS1.ab.cell hlt (j := 1) (by omega)
            have x2 := hS1.ab.cell hlt (j := 2) (by omega)
            have f0 := hS1.ab.frozen
            simp only [Nat.add_zero] at x0
            have HS1 : Hid (AR w M pk n c cs w1) := hS1
            clear hS1 HS hb1
            go_wp2_with fail
            clear x0 x1 x2 f0
            have HS2 : Hid (AR w M pk n c (csSet (csSet (csSet cs j 0 (.int .i64 (k j))) j 1 (.int .i64 (m j))) j 2 (.string (z j))) (((w1.setCell ⟨w.heap.size + 1 + 1, j * 10, none⟩ (.int .i64 (k j))).setCell ⟨w.heap.size + 1 + 1, j * 10 + 1, none⟩ (.int .i64 (m j))).setCell ⟨w.heap.size + 1 + 1, j * 10 + 2, none⟩ (.string (z j)))) := ((HS1.out.set hlt (j := 0) (by omega) _).set hlt (j := 1) (by omega) _).set hlt (j := 2) (by omega) _
            refine (HI.out _).mono ?_
            rintro e2 w2 ⟨rfl, hb2⟩
            have HS3 := HS2.out.next hb2
            clear HS2 hb2 HS1
            go_wp2_with fail
            exact ⟨⟨j + 1, _, by simp, hlt, rfl, HS3, vals_next HVV.out⟩, by simp [intOf]; omega⟩
          · have HI : Hid (∀ wx, Calls Tryz.prog 170 #[VV (k j) (m j) (z j)] wx fun e w' => e = .returned (.bool false) ∧ Below wx.heap.size wx w') := fun wx => by
              have := isBad_any (k j) (m j) (z j) wx
              rw [show (k j == 4) = false from by rw [(HKK.out j hls).2 e]; rfl] at this
              exact this
            go_wp2_with fail
            refine (HV.out j _ hlt HS.out.below).mono ?_
            clear m0 m1
            rintro e1 w1 ⟨rfl, hb1⟩
            have hS1 := HS.out.next hb1
            have x0 := hS1.ab.cell hlt (j := 0) (by omega)
            have x1 := hS1.ab.cell hlt (j := 1) (by omega)
            have x2 := hS1.ab.cell hlt (j := 2) (by omega)
            have f0 := hS1.ab.frozen
            simp only [Nat.add_zero] at x0
            have HS1 : Hid (AR w M pk n c cs w1) := hS1
            clear hS1 HS hb1
            go_wp2_with fail
            clear x0 x1 x2 f0
            have HS2 : Hid (AR w M pk n c (csSet (csSet (csSet cs j 0 (.int .i64 (k j))) j 1 (.int .i64 (m j))) j 2 (.string (z j))) (((w1.setCell ⟨w.heap.size + 1 + 1, j * 10, none⟩ (.int .i64 (k j))).setCell ⟨w.heap.size + 1 + 1, j * 10 + 1, none⟩ (.int .i64 (m j))).setCell ⟨w.heap.size + 1 + 1, j * 10 + 2, none⟩ (.string (z j)))) := ((HS1.out.set hlt (j := 0) (by omega) _).set hlt (j := 1) (by omega) _).set hlt (j := 2) (by omega) _
            refine (HI.out _).mono ?_
            rintro e2 w2 ⟨rfl, hb2⟩
            have HS3 := HS2.out.next hb2
            clear HS2 hb2 HS1
            go_wp2_with fail
            exact ⟨⟨j + 1, _, by simp, hlt, rfl, HS3, vals_next HVV.out⟩, by simp [intOf]; omega⟩
        · have hkn : n = j := by omega
          subst hkn
          have HS : Hid (AR w M pk n c cs wr) := hS
          have HVV : Hid (∀ i, i < n → cs i 0 = .int .i64 (k i) ∧ cs i 1 = .int .i64 (m i) ∧ cs i 2 = .string (z i)) := hv
          clear hS hv
          go_wp2_with fail
          go_loopw [4, 69] (fun a i wr => ∃ (j : Nat) (cs : Nat → Nat → Value), i = .int .i64 j ∧ j ≤ n ∧ a = .slice (some ⟨w.heap.size + 1 + 1, 0, none⟩) n n ∧ AR w M pk n c cs wr ∧ (∀ i, i < n → cs i 0 = .int .i64 (k i) ∧ cs i 1 = .int .i64 (m i) ∧ cs i 2 = .string (z i)) ∧ ∀ i (h : i < L.size), i < j → (L[i].toNat = 110 → cs i 3 = .int .i64 (m i)) ∧ (L[i].toNat = 116 → cs i 4 = .string (z i))) (fun _ i _ => n - (intOf i).toNat)
          case atStart => exact ⟨0, cs, rfl, Nat.zero_le _, rfl, HS.out, HVV.out, fun i _ hi => absurd hi (Nat.not_lt_zero _)⟩
          case round =>
          clear HS HVV
          obtain ⟨j, cs, rfl, hj2, rfl, hS, hv, hd⟩ := hrel
          by_cases hlt : j < n
          · have hlt' : (j : Int) < (n : Int) := by omega
            have hls : j < L.size := by omega
            have hls' : (j : Int) < (L.size : Int) := by omega
            have hj0 : (0 : Int) ≤ (j : Int) := by omega
            obtain ⟨v0, v1, v2⟩ := hv j hlt
            have x0 := hS.ab.cell hlt (j := 0) (by omega)
            have x1 := hS.ab.cell hlt (j := 1) (by omega)
            have x2 := hS.ab.cell hlt (j := 2) (by omega)
            simp only [Nat.add_zero] at x0
            rw [v0] at x0
            rw [v1] at x1
            rw [v2] at x2
            have HS : Hid (AR w M pk n c cs wr) := hS
            have HVV : Hid (∀ i, i < n → cs i 0 = .int .i64 (k i) ∧ cs i 1 = .int .i64 (m i) ∧ cs i 2 = .string (z i)) := hv
            have HDD : Hid (∀ i (h : i < L.size), i < j → (L[i].toNat = 110 → cs i 3 = .int .i64 (m i)) ∧ (L[i].toNat = 116 → cs i 4 = .string (z i))) := hd
            clear hS hv hd v0 v1 v2
            rcases HL.out j hls with e | e
            · have HN : Hid (∀ wx, Calls Tryz.prog 108 #[VV 2 (m j) (z j)] wx fun e w' => e = .returned (.string (z j)) ∧ Below wx.heap.size wx w') := fun wx => vshow (m j) (z j) wx
              rw [(HKK.out j hls).1 e] at x0
              go_wp2_with fail
              refine (HN.out _).mono ?_
              clear x0 x1 x2
              rintro e1 w1 ⟨rfl, hb1⟩
              have hS2 := HS.out.next hb1
              have x3 := hS2.ab.cell hlt (j := 4) (by omega)
              have f0 := hS2.ab.frozen
              have HS3 : Hid (AR w M pk n c (csSet cs j 4 (.string (z j))) (w1.setCell ⟨w.heap.size + 1 + 1, j * 10 + 4, none⟩ (.string (z j)))) := hS2.set hlt (j := 4) (by omega) _
              clear hS2 hb1 HS HN
              go_wp2_with fail
              exact ⟨⟨j + 1, _, by simp, hlt, rfl, HS3.out, vals_keep HVV.out (by omega), done_t (fun _ => e) HDD.out⟩, by simp [intOf]; omega⟩
            · have HI : Hid (∀ wx, Calls Tryz.prog 170 #[VV 1 (m j) (z j)] wx fun e w' => e = .returned (.bool false) ∧ Below wx.heap.size wx w') := fun wx => isBad_any 1 (m j) (z j) wx
              have HN : Hid (∀ wx, Calls Tryz.prog 106 #[VV 1 (m j) (z j)] wx fun e w' => e = .returned (VV 1 (m j) (z j)) ∧ Below wx.heap.size wx w') := fun wx => vnumber (m j) (z j) wx
              rw [(HKK.out j hls).2 e] at x0
              go_wp2_with fail
              refine (HN.out _).mono ?_
              clear x0 x1 x2
              rintro e1 w1 ⟨rfl, hb1⟩
              have hS1 := (HS.out.next hb1).next ((Below.refl _ _).alloc (Nat.le_refl _) (.cells #[.int .i64 1, .int .i64 (m j), .string (z j)] 31))
              have HS1 : Hid (AR w M pk n c cs (w1.alloc (.cells #[.int .i64 1, .int .i64 (m j), .string (z j)] 31))) := hS1
              have hv1 : (w1.alloc (.cells #[.int .i64 1, .int .i64 (m j), .string (z j)] 31)).heap[w1.heap.size]? = some (.cells #[.int .i64 1, .int .i64 (m j), .string (z j)] 31 (0, 0)) := heap_alloc_new _ _
              obtain ⟨y0, y1, y2⟩ := cells3v hv1
              have HV1 : Hid ((w1.alloc (.cells #[.int .i64 1, .int .i64 (m j), .string (z j)] 31)).heap[w1.heap.size]? = some (.cells #[.int .i64 1, .int .i64 (m j), .string (z j)] 31 (0, 0))) := hv1
              clear hS1 HS hb1 hv1 HN
              go_wp2_with fail
              refine (HI.out _).mono ?_
              clear y0 y1 y2
              rintro e2 w2 ⟨rfl, hb2⟩
              have hS2 := HS1.out.next hb2
              have hv2 := (hb2.block _ (fm.lt_blk HV1.out)).trans HV1.out
              obtain ⟨y0, y1, y2⟩ := cells3v hv2
              have x3 := hS2.ab.cell hlt (j := 3) (by omega)
              have f0 := hS2.ab.frozen
              have HS3 : Hid (AR w M pk n c (csSet cs j 3 (.int .i64 (m j))) (w2.setCell ⟨w.heap.size + 1 + 1, j * 10 + 3, none⟩ (.int .i64 (m j)))) := hS2.set hlt (j := 3) (by omega) _
              clear hS2 hv2 hb2 HV1 HS1
              go_wp2_with fail
              exact ⟨⟨j + 1, _, by simp, hlt, rfl, HS3.out, vals_keep HVV.out (by omega), done_n (fun _ => e) HDD.out⟩, by simp [intOf]; omega⟩
          · have hkn : n = j := by omega
            subst hkn
            obtain ⟨r0, r1, r2⟩ := cells3v hS.r
            have g0 : ∀ o, wr.frozen? ⟨w.heap.size + 1, o, none⟩ = false := fun o => by simp [World.frozen?, hS.r]
            have HS : Hid (AR w M pk n c cs wr) := hS
            have HDD : Hid (∀ i (h : i < L.size), i < n → (L[i].toNat = 110 → cs i 3 = .int .i64 (m i)) ∧ (L[i].toNat = 116 → cs i 4 = .string (z i))) := hd
            clear hS hd hv
            go_wp2_with fail
            refine fin3e HS.out.r (Q := bodyPost _ _ _ _ _) ?_
            clear r0 r1 r2 g0
            intro w2 hq2 hk2 he2
            obtain ⟨d0, d1, d2⟩ := cells3v hq2
            exact bodyPost_ret (v := .tuple #[.slice (some ⟨w.heap.size + 1 + 1, 0, none⟩) n n, VV 0 0 nul]) (by simp [results, Tryz.results246, go_sem, d0, d1, d2]) rfl ⟨_, cs, rfl, ab_keep HS.out.ab he2 (by omega), fun i h => HDD.out i h (by omega), HS.out.below.trans (hk2 _ (by omega))⟩
end Go.Proofs.YtoaejcppfmjhdaaGreatDoor.ev
