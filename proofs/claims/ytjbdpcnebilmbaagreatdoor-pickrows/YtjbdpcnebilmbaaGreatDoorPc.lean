
/- Package pick: Pick and Any. Conditions: as each theorem says. -/
import Derived.Test.YtjbdpcnebilmbaaGreatDoorPb
import Derived.Test.YtjbdpcnebilmbaaGreatDoorSn
import Derived.Laws.EntriesVeiled
namespace Go.Proofs.YtjbdpcnebilmbaaGreatDoor.so
open Go.RowKit Go.Sort Go.Shelf
/-- Is one of them so? -/
def anyB (n : Nat) (m : Nat → Bool) : Bool := (List.range n).any m
theorem anyB_true {n : Nat} {m : Nat → Bool} : anyB n m = true ↔ ∃ j, j < n ∧ m j = true := by unfold anyB; simp
theorem anyB_false {n : Nat} {m : Nat → Bool} (h : ∀ j, j < n → m j = false) : anyB n m = false := by
  cases e : anyB n m with
  | false => rfl
  | true => obtain ⟨j, hj, h2⟩ := anyB_true.1 e; rw [h j hj] at h2; cases h2
theorem metO_any (T : Tb) (n : Nat) (f : Nat → Wt) (i : Nat) : anyB n (fun j => meet (T.v i (f j).c.toNat) (f j).o (f j).v) = metO T n f i := by
  unfold metO
  rw [Bool.eq_iff_iff, anyB_true, decide_eq_true_iff, mets_pos]
theorem metA_any (T : Tb) (n : Nat) (f : Nat → Wt) (i : Nat) : (!(anyB n (fun j => !(meet (T.v i (f j).c.toNat) (f j).o (f j).v)))) = metA T n f i := by
  unfold metA
  rw [Bool.eq_iff_iff, decide_eq_true_iff, mets_all]
  constructor
  · intro h j hj
    cases e : meet (T.v i (f j).c.toNat) (f j).o (f j).v with
    | true => rfl
    | false =>
      have := (anyB_true (n := n) (m := fun j => !(meet (T.v i (f j).c.toNat) (f j).o (f j).v))).2 ⟨j, hj, by show (!(meet (T.v i (f j).c.toNat) (f j).o (f j).v)) = true; rw [e]; rfl⟩
      rw [this] at h
      cases h
  · intro h
    rw [anyB_false (fun j hj => by rw [h j hj]; rfl)]
    rfl
abbrev fmet (b1 b2 : Nat) : Value := .func (.func 33) #[] #[.pointer (some ⟨b1, 0, none⟩), .pointer (some ⟨b2, 0, none⟩)]
abbrev fmis (b3 : Nat) : Value := .func (.func 31) #[] #[.pointer (some ⟨b3, 0, none⟩)]
theorem metBy_any (p : Option Addr) (l cp : Nat) (w : World) :
    Calls Tryz.prog 20 #[.slice p l cp] w fun e w' => ∃ b1 b2, e = .returned (fmet b1 b2) ∧ Bx w' b1 (.slice p l cp) ∧ CV w' b2 3 1 nul ∧ Bw w w' := by
  go_enter Tryz.func20, Tryz.ntmps20
  go_wp2_with fail
  go_ret
  have hb := Bw.al (w.alloc (.cells #[.slice p l cp] 27)) (.cells #[.int .i64 3, .int .i64 1, .string nul] 38)
  refine ⟨w.heap.size, w.heap.size + 1, by simp, Bx.next (w := w.alloc (.cells #[.slice p l cp] 27)) ⟨by simp, by simp⟩ hb, ?_, (Bw.al _ _).tr hb⟩
  have := heap_alloc_new (w.alloc (.cells #[.slice p l cp] 27)) (.cells #[.int .i64 3, .int .i64 1, .string nul] 38)
  have es : (w.alloc (.cells #[.slice p l cp] 27)).heap.size = w.heap.size + 1 := by simp
  rw [es] at this
  exact this
set_option maxRecDepth 100000 in
theorem missedBy_any (p : Option Addr) (l cp : Nat) (w : World) :
    Calls Tryz.prog 17 #[.slice p l cp] w fun e w' => ∃ b1 b2 b3, e = .returned (fmis b3) ∧ Bx w' b3 (fmet b1 b2) ∧ Bx w' b1 (.slice p l cp) ∧ CV w' b2 3 1 nul ∧ Bw w w' := by
  have H := metBy_any p l cp w
  go_enter Tryz.func17, Tryz.ntmps17
  go_wp2_with fail
  refine H.mono ?_
  clear H
  rintro e w1 ⟨b1, b2, rfl, h1, h2, h3⟩
  have HH : Hid (Bx w1 b1 (.slice p l cp) ∧ CV w1 b2 3 1 nul ∧ Bw w w1) := ⟨h1, h2, h3⟩
  clear h1 h2 h3
  dsimp only [fmet]
  go_wp2_with fail
  go_ret
  exact ⟨b1, b2, w1.heap.size, rfl, ⟨by simp, by simp⟩, HH.out.1.next (Bw.al _ _), HH.out.2.1.next (Bw.al _ _), HH.out.2.2.tr (Bw.al _ _)⟩
set_option maxRecDepth 100000 in
set_option maxHeartbeats 4000000 in
theorem mis1_any (p : Option Addr) (l cp : Nat) (r : Nat → Vl) (u : Wt) (b1 b2 b3 : Nat) (w : World) (hR : VM w p l r) (h3 : Bx w b3 (fmet b1 b2)) (h1 : Bx w b1 (.slice p l cp)) (h2 : CV w b2 3 1 nul) (hc : 0 ≤ u.c ∧ u.c < (l : Int)) (ho : 1 ≤ u.o ∧ u.o ≤ 6) :
    Calls Tryz.prog 31 #[WV u.c u.o u.v.k u.v.n u.v.s, .pointer (some ⟨b3, 0, none⟩)] w fun e w' => e = .returned (.bool (!(meet (r u.c.toNat) u.o u.v))) ∧ Bw w w' := by
  have hb := Bw.al w (.cells #[.int .i64 u.c, .int .i64 u.o, .int .i64 u.v.k, .int .i64 u.v.n, .string u.v.s] 40)
  have H : Hid (Calls Tryz.prog 33 #[WV u.c u.o u.v.k u.v.n u.v.s, .pointer (some ⟨b1, 0, none⟩), .pointer (some ⟨b2, 0, none⟩)] (w.alloc (.cells #[.int .i64 u.c, .int .i64 u.o, .int .i64 u.v.k, .int .i64 u.v.n, .string u.v.s] 40)) fun e w' => e = .returned (.bool (meet (r u.c.toNat) u.o u.v)) ∧ Bw (w.alloc (.cells #[.int .i64 u.c, .int .i64 u.o, .int .i64 u.v.k, .int .i64 u.v.n, .string u.v.s] 40)) w') := met1_any p l cp r u b1 b2 _ (hR.next hb) (h1.next hb) (h2.next hb) hc ho
  obtain ⟨y0, y1⟩ := h3
  dsimp only [fmet] at y0
  generalize meet (r u.c.toNat) u.o u.v = B at *
  obtain ⟨uc, uo, ⟨uk, un, us⟩⟩ := u
  dsimp only at H ⊢
  have HB : Hid (Bw w (w.alloc (.cells #[.int .i64 uc, .int .i64 uo, .int .i64 uk, .int .i64 un, .string us] 40))) := Bw.al _ _
  clear hb h1 h2 hR hc ho
  go_enter Tryz.func31, Tryz.ntmps31
  go_wp2_with fail
  refine H.out.mono ?_
  clear H
  rintro e w1 ⟨rfl, q1⟩
  have HB1 : Hid (Bw w w1) := HB.out.tr q1
  clear q1 HB
  go_wp2_with fail
  go_ret
  exact ⟨rfl, HB1.out⟩
set_option maxRecDepth 100000 in
set_option maxHeartbeats 4000000 in
theorem index_met (p : Option Addr) (n c : Nat) (f : Nat → Wt) (m : Nat → Bool) (b1 b2 : Nat) (w : World) (hn : n ≤ 12) (hW : WM w p n f) (hf : ∀ j, j < n → ∀ wx, Bw w wx → Calls Tryz.prog 33 #[WV (f j).c (f j).o (f j).v.k (f j).v.n (f j).v.s, .pointer (some ⟨b1, 0, none⟩), .pointer (some ⟨b2, 0, none⟩)] wx fun e w' => e = .returned (.bool (m j)) ∧ Bw wx w') :
    Calls Tryz.prog 30 #[.slice p n c, .func (.func 33) #[] #[.pointer (some ⟨b1, 0, none⟩), .pointer (some ⟨b2, 0, none⟩)]] w fun e w' => (∃ x : Int, e = .returned (.int .i64 x) ∧ ((x = -1 ∧ ∀ j, j < n → m j = false) ∨ (∃ j, j < n ∧ x = (j : Nat) ∧ m j = true))) ∧ Bw w w' := by
  have HT : Hid (WM w p n f) := hW
  have HF : Hid (∀ j, j < n → ∀ wx, Bw w wx → Calls Tryz.prog 33 #[WV (f j).c (f j).o (f j).v.k (f j).v.n (f j).v.s, .pointer (some ⟨b1, 0, none⟩), .pointer (some ⟨b2, 0, none⟩)] wx fun e w' => e = .returned (.bool (m j)) ∧ Bw wx w') := hf
  clear hW hf
  go_enter Tryz.func30, Tryz.ntmps30
  go_wp2_with fail
  go_loopw [8] (fun i wr => ∃ j : Nat, i = .int .i64 j ∧ j ≤ n ∧ Hid (Bw w wr) ∧ Hid (∀ i, i < j → m i = false)) (fun i _ => n - (intOf i).toNat)
  case atStart => exact ⟨0, rfl, Nat.zero_le _, Below.refl _ _, fun i hi => absurd hi (Nat.not_lt_zero _)⟩
  case round =>
    obtain ⟨j, rfl, hj, HB, HD⟩ := hrel
    by_cases hlt : j < n
    · have hlt' : (j : Int) < (n : Int) := by omega
      have hj0 : (0 : Int) ≤ (j : Int) := by omega
      rcases HT.out.next HB.out with h | ⟨g, o, rfl, hg, h3⟩
      · omega
      obtain ⟨y0, y1, y2, y3, y4⟩ := h3 j hlt
      clear h3 hg
      have HW := HF.out j hlt wr HB.out
      obtain ⟨u, hu⟩ : ∃ u, f j = u := ⟨_, rfl⟩
      rw [hu] at y0 y1 y2 y3 y4 HW
      clear hu
      obtain ⟨uc, uo, ⟨uk, un, us⟩⟩ := u
      dsimp only at y0 y1 y2 y3 y4 HW
      cases hb : m j with
      | true =>
        have HX : Hid (m j = true) := hb
        rw [hb] at HW
        clear hb
        go_wp2_with fail
        refine HW.mono ?_
        rintro e w1 ⟨rfl, hb1⟩
        have HB1 : Hid (Bw w w1) := HB.out.tr hb1
        clear hb1 HW y0 y1 y2 y3 y4 HB
        go_wp2_with fail
        go_ret
        exact ⟨⟨j, rfl, .inr ⟨j, hlt, rfl, HX.out⟩⟩, HB1.out⟩
      | false =>
        have HX : Hid (m j = false) := hb
        rw [hb] at HW
        clear hb
        go_wp2_with fail
        refine HW.mono ?_
        rintro e w1 ⟨rfl, hb1⟩
        have HB1 : Hid (Bw w w1) := HB.out.tr hb1
        clear hb1 HW y0 y1 y2 y3 y4 HB
        go_wp2_with fail
        exact ⟨⟨j + 1, by simp, hlt, HB1, fun i hi => by
          by_cases e : i = j
          · subst e; exact HX.out
          · exact HD.out i (by omega)⟩, by simp [intOf]; omega⟩
    · have hj2 : ¬ (j : Int) < (n : Int) := by omega
      go_wp2_with fail
      go_ret
      exact ⟨⟨-1, rfl, .inl ⟨rfl, fun i hi => HD.out i (by omega)⟩⟩, HB.out⟩
theorem contains_met (p : Option Addr) (n c : Nat) (f : Nat → Wt) (m : Nat → Bool) (b1 b2 : Nat) (w : World) (hn : n ≤ 12) (hW : WM w p n f) (hf : ∀ j, j < n → ∀ wx, Bw w wx → Calls Tryz.prog 33 #[WV (f j).c (f j).o (f j).v.k (f j).v.n (f j).v.s, .pointer (some ⟨b1, 0, none⟩), .pointer (some ⟨b2, 0, none⟩)] wx fun e w' => e = .returned (.bool (m j)) ∧ Bw wx w') :
    Calls Tryz.prog 16 #[.slice p n c, .func (.func 33) #[] #[.pointer (some ⟨b1, 0, none⟩), .pointer (some ⟨b2, 0, none⟩)]] w fun e w' => e = .returned (.bool (anyB n m)) ∧ Bw w w' := by
  have H := index_met p n c f m b1 b2 w hn hW hf
  clear hW hf
  go_enter Tryz.func16, Tryz.ntmps16
  go_wp2_with fail
  refine H.mono ?_
  rintro e w1 ⟨⟨x, rfl, hx⟩, hb⟩
  have HB : Hid (Bw w w1) := hb
  have HX : Hid (decide (x ≥ 0) = anyB n m) := by
    show decide (x ≥ 0) = anyB n m
    rw [Bool.eq_iff_iff, anyB_true]
    rcases hx with ⟨h1, h2⟩ | ⟨j, h1, h2, h3⟩
    · constructor
      · intro h; simp at h; omega
      · rintro ⟨j, hj, h⟩; rw [h2 j hj] at h; cases h
    · exact ⟨fun _ => ⟨j, h1, h3⟩, fun _ => by simp; omega⟩
  clear hb hx H
  go_wp2_with fail
  go_ret
  exact ⟨by rw [← HX.out]; simp, HB.out⟩
set_option maxRecDepth 100000 in
set_option maxHeartbeats 4000000 in
theorem index_mis (p : Option Addr) (n c : Nat) (f : Nat → Wt) (m : Nat → Bool) (b3 : Nat) (w : World) (hn : n ≤ 12) (hW : WM w p n f) (hf : ∀ j, j < n → ∀ wx, Bw w wx → Calls Tryz.prog 31 #[WV (f j).c (f j).o (f j).v.k (f j).v.n (f j).v.s, .pointer (some ⟨b3, 0, none⟩)] wx fun e w' => e = .returned (.bool (m j)) ∧ Bw wx w') :
    Calls Tryz.prog 30 #[.slice p n c, .func (.func 31) #[] #[.pointer (some ⟨b3, 0, none⟩)]] w fun e w' => (∃ x : Int, e = .returned (.int .i64 x) ∧ ((x = -1 ∧ ∀ j, j < n → m j = false) ∨ (∃ j, j < n ∧ x = (j : Nat) ∧ m j = true))) ∧ Bw w w' := by
  have HT : Hid (WM w p n f) := hW
  have HF : Hid (∀ j, j < n → ∀ wx, Bw w wx → Calls Tryz.prog 31 #[WV (f j).c (f j).o (f j).v.k (f j).v.n (f j).v.s, .pointer (some ⟨b3, 0, none⟩)] wx fun e w' => e = .returned (.bool (m j)) ∧ Bw wx w') := hf
  clear hW hf
  go_enter Tryz.func30, Tryz.ntmps30
  go_wp2_with fail
  go_loopw [8] (fun i wr => ∃ j : Nat, i = .int .i64 j ∧ j ≤ n ∧ Hid (Bw w wr) ∧ Hid (∀ i, i < j → m i = false)) (fun i _ => n - (intOf i).toNat)
  case atStart => exact ⟨0, rfl, Nat.zero_le _, Below.refl _ _, fun i hi => absurd hi (Nat.not_lt_zero _)⟩
  case round =>
    obtain ⟨j, rfl, hj, HB, HD⟩ := hrel
    by_cases hlt : j < n
    · have hlt' : (j : Int) < (n : Int) := by omega
      have hj0 : (0 : Int) ≤ (j : Int) := by omega
      rcases HT.out.next HB.out with h | ⟨g, o, rfl, hg, h3⟩
      · omega
      obtain ⟨y0, y1, y2, y3, y4⟩ := h3 j hlt
      clear h3 hg
      have HW := HF.out j hlt wr HB.out
      obtain ⟨u, hu⟩ : ∃ u, f j = u := ⟨_, rfl⟩
      rw [hu] at y0 y1 y2 y3 y4 HW
      clear hu
      obtain ⟨uc, uo, ⟨uk, un, us⟩⟩ := u
      dsimp only at y0 y1 y2 y3 y4 HW
      cases hb : m j with
      | true =>
        have HX : Hid (m j = true) := hb
        rw [hb] at HW
        clear hb
        go_wp2_with fail
        refine HW.mono ?_
        rintro e w1 ⟨rfl, hb1⟩
        have HB1 : Hid (Bw w w1) := HB.out.tr hb1
        clear hb1 HW y0 y1 y2 y3 y4 HB
        go_wp2_with fail
        go_ret
        exact ⟨⟨j, rfl, .inr ⟨j, hlt, rfl, HX.out⟩⟩, HB1.out⟩
      | false =>
        have HX : Hid (m j = false) := hb
        rw [hb] at HW
        clear hb
        go_wp2_with fail
        refine HW.mono ?_
        rintro e w1 ⟨rfl, hb1⟩
        have HB1 : Hid (Bw w w1) := HB.out.tr hb1
        clear hb1 HW y0 y1 y2 y3 y4 HB
        go_wp2_with fail
        exact ⟨⟨j + 1, by simp, hlt, HB1, fun i hi => by
          by_cases e : i = j
          · subst e; exact HX.out
          · exact HD.out i (by omega)⟩, by simp [intOf]; omega⟩
    · have hj2 : ¬ (j : Int) < (n : Int) := by omega
      go_wp2_with fail
      go_ret
      exact ⟨⟨-1, rfl, .inl ⟨rfl, fun i hi => HD.out i (by omega)⟩⟩, HB.out⟩
theorem contains_mis (p : Option Addr) (n c : Nat) (f : Nat → Wt) (m : Nat → Bool) (b3 : Nat) (w : World) (hn : n ≤ 12) (hW : WM w p n f) (hf : ∀ j, j < n → ∀ wx, Bw w wx → Calls Tryz.prog 31 #[WV (f j).c (f j).o (f j).v.k (f j).v.n (f j).v.s, .pointer (some ⟨b3, 0, none⟩)] wx fun e w' => e = .returned (.bool (m j)) ∧ Bw wx w') :
    Calls Tryz.prog 16 #[.slice p n c, .func (.func 31) #[] #[.pointer (some ⟨b3, 0, none⟩)]] w fun e w' => e = .returned (.bool (anyB n m)) ∧ Bw w w' := by
  have H := index_mis p n c f m b3 w hn hW hf
  clear hW hf
  go_enter Tryz.func16, Tryz.ntmps16
  go_wp2_with fail
  refine H.mono ?_
  rintro e w1 ⟨⟨x, rfl, hx⟩, hb⟩
  have HB : Hid (Bw w w1) := hb
  have HX : Hid (decide (x ≥ 0) = anyB n m) := by
    show decide (x ≥ 0) = anyB n m
    rw [Bool.eq_iff_iff, anyB_true]
    rcases hx with ⟨h1, h2⟩ | ⟨j, h1, h2, h3⟩
    · constructor
      · intro h; simp at h; omega
      · rintro ⟨j, hj, h⟩; rw [h2 j hj] at h; cases h
    · exact ⟨fun _ => ⟨j, h1, h3⟩, fun _ => by simp; omega⟩
  clear hb hx H
  go_wp2_with fail
  go_ret
  exact ⟨by rw [← HX.out]; simp, HB.out⟩
end Go.Proofs.YtjbdpcnebilmbaaGreatDoor.so
