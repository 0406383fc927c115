/- A node is written: leaves, what is negative. Conditions: the package variables as the program's text lays them; lengths below a million. -/
import Derived.Test.YtoebppmagkijjaaGreatDoorPi
import Derived.Test.YtoebppmagkijjaaGreatDoorEi
namespace Go.Proofs.YtoebppmagkijjaaGreatDoor.fm
open Go.RowKit
theorem Kw.of {B wb : Nat} {w w' : World} (h : Below w.heap.size w w') (hB : B ≤ w.heap.size) : Kw B wb w w' :=
  ⟨h.mono hB, fun b o hb _ _ => by rw [h.block b (Array.getElem?_eq_some_iff.1 hb).1]; exact hb⟩
theorem WB.below {w w' : World} {B wb : Nat} {x : List UInt8} {d m : Nat} (h : WB w B wb x d m) (hb : Below w.heap.size w w') : WB w' B wb x d m := by
  have hl := h.lt
  obtain ⟨hB, p, v, hp, h1, h2⟩ := h
  exact ⟨hB, p, v, hp, by rw [hb.block wb hl]; exact h1, h2.kept (row := none) ⟨hb.os, hb.tape, hb.output, hb.size, fun k hk _ => hb.block k hk⟩ (by cases hv : v.ownBlock <;> simp)⟩
theorem leaf_any (w : World) (hE : EnvW w) {k n : Int} {s : ByteArray} {r t : Rf} {ts : List T} {x : List UInt8} {dp : Nat} (h : W ink (.nd k n s r t ts) x dp) (h7 : ¬ k = 7) (h8 : ¬ k = 8) (h9 : ¬ k = 9) (p : Option Addr) (m c : Nat) :
    dp = 0 ∧ Calls Tryz.prog 146 #[NV k n s r t (.slice p m c)] w fun e w' => e = .returned (.string ⟨x.toArray⟩) ∧ Below w.heap.size w w' := by
  cases h with
  | num h0 h1 => exact ⟨rfl, leaf_num n _ _ _ p m c w hE h0 h1⟩
  | text h => exact ⟨rfl, leaf_text 0 s _ _ p m c w hE h⟩
  | truth h => exact ⟨rfl, leaf_truth n _ _ _ p m c w h⟩
  | bad h h6 => exact ⟨rfl, leaf_bad _ _ _ _ p m c w hE h h6⟩
  | ref h => exact ⟨rfl, leaf_ref 0 _ _ _ p m c w h⟩
  | box h h2 => exact ⟨rfl, leaf_box 0 _ _ _ p m c w h h2⟩
  | neg _ _ => exact absurd rfl h7
  | two _ _ _ _ _ _ => exact absurd rfl h8
  | call _ _ _ _ => exact absurd rfl h9
set_option maxHeartbeats 4000000 in
set_option maxRecDepth 100000 in
theorem node_leaf (w0 : World) (hE : EnvW w0) {k n : Int} {s : ByteArray} {r t : Rf} {ts : List T} {x : List UInt8} {dp : Nat} (h : W ink (.nd k n s r t ts) x dp) (h7 : ¬ k = 7) (h8 : ¬ k = 8) (h9 : ¬ k = 9) (p : Option Addr) (q c : Nat) : NodeOK w0 (NV k n s r t (.slice p q c)) x dp := by
  intro w wb y d m hb hW hdm hm hlen
  have hs0 := hb.size
  have hEw := hE.below hb hE.lt
  have hW2 := (hW.alloc (.cells #[ptr wb] 166)).alloc (.cells (N12 k n s r t (.slice p q c)) 28)
  have kW2 : Kw w0.heap.size wb w ((w.alloc (.cells #[ptr wb] 166)).alloc (.cells (N12 k n s r t (.slice p q c)) 28)) := ((Kw.refl _ _ _).alloc hs0 _).alloc (by simp; omega) _
  have hp2 : ((w.alloc (.cells #[ptr wb] 166)).alloc (.cells (N12 k n s r t (.slice p q c)) 28)).heap[w.heap.size]? = some (.cells #[ptr wb] 166 (0, 0)) := by
    rw [Below.heap_alloc _ _ _ (by simp)]; exact blk_new _ _
  have hn2 : ((w.alloc (.cells #[ptr wb] 166)).alloc (.cells (N12 k n s r t (.slice p q c)) 28)).heap[w.heap.size + 1]? = some (.cells (N12 k n s r t (.slice p q c)) 28 (0, 0)) := by
    have := blk_new (w.alloc (.cells #[ptr wb] 166)) (.cells (N12 k n s r t (.slice p q c)) 28)
    simpa using this
  have hE2 := hEw.below kW2.b hE.lt
  obtain ⟨rfl, _⟩ := leaf_any _ hE2 h h7 h8 h9 p q c
  have hE2d : EnvW (((w.alloc (.cells #[ptr wb] 166)).alloc (.cells (N12 k n s r t (.slice p q c)) 28)).drew) := hE2.below ((Below.refl _ _).drew) hE2.lt
  obtain ⟨_, HL⟩ := leaf_any _ hE2d h h7 h8 h9 p q c
  obtain ⟨⟨a0, a1, a2, a3, a4, a5, a6, a7, a8, a9, a10, a11⟩, af⟩ := cells12 hn2
  obtain ⟨p0, p1⟩ := cells1 hp2
  clear af p1
  have h7' : (k == 7) = false := by simpa using h7
  have h8' : (k == 8) = false := by simpa using h8
  have h9' : (k == 9) = false := by simpa using h9
  have hlt0 := hW.lt
  clear h hE hEw hE2 hE2d hW h7 h8 h9
  go_enter Tryz.func103, Tryz.ntmps103
  go_wp2_with fail
  generalize (w.alloc (.cells #[ptr wb] 166)).alloc _ = w2 at *
  have HLL : Hid (Calls Tryz.prog 146 #[NV k n s r t (.slice p q c)] w2.drew fun e w' => e = .returned (.string ⟨x.toArray⟩) ∧ Below w2.drew.heap.size w2.drew w') := HL
  have hs2 := kW2.b.size
  have HWR : Hid (∀ w3, Below w2.drew.heap.size w2.drew w3 → Calls Tryz.prog 102 #[ptr wb, .string ⟨x.toArray⟩] w3 fun e w' => e = .returned (.tuple #[.int .i64 (⟨x.toArray⟩ : ByteArray).size, .nilIface]) ∧ WB w' w0.heap.size wb (y ++ x) d m ∧ Kw w0.heap.size wb w2.drew w') := fun w3 hb3 => by
    have hs3 := hb3.size
    have e2 : w2.drew.heap.size = w2.heap.size := rfl
    refine (write_any w0.heap.size wb y d m ⟨x.toArray⟩ w3 (WB.below hW2.drew hb3) (by show y.length + x.toArray.size ≤ _; simp; omega) (by omega)).mono ?_
    rintro e w4 ⟨rfl, h4, k4⟩
    exact ⟨rfl, by simpa using h4, (Kw.of hb3 (by omega)).trans k4⟩
  have hw1 : w.heap.size ≠ wb := by have := hlt0; omega
  have hw2 : w.heap.size + 1 ≠ wb := by have := hlt0; omega
  have KK : Hid (∀ wx, Kw w0.heap.size wb w2.drew wx → wx.cell? ⟨w.heap.size, 0, none⟩ = some (ptr wb) ∧ wx.cell? ⟨w.heap.size + 1, 0, none⟩ = some (.int .i64 k) ∧ wx.cell? ⟨w.heap.size + 1, 1, none⟩ = some (.int .i64 n) ∧ wx.cell? ⟨w.heap.size + 1, 2, none⟩ = some (.string s) ∧ wx.cell? ⟨w.heap.size + 1, 3, none⟩ = some (.int .i64 r.c) ∧ wx.cell? ⟨w.heap.size + 1, 4, none⟩ = some (.int .i64 r.r) ∧ wx.cell? ⟨w.heap.size + 1, 5, none⟩ = some (.bool r.fc) ∧ wx.cell? ⟨w.heap.size + 1, 6, none⟩ = some (.bool r.fr) ∧ wx.cell? ⟨w.heap.size + 1, 7, none⟩ = some (.int .i64 t.c) ∧ wx.cell? ⟨w.heap.size + 1, 8, none⟩ = some (.int .i64 t.r) ∧ wx.cell? ⟨w.heap.size + 1, 9, none⟩ = some (.bool t.fc) ∧ wx.cell? ⟨w.heap.size + 1, 10, none⟩ = some (.bool t.fr) ∧ wx.cell? ⟨w.heap.size + 1, 11, none⟩ = some (.slice p q c)) := fun wx hk => by
    obtain ⟨⟨a0, a1, a2, a3, a4, a5, a6, a7, a8, a9, a10, a11⟩, af⟩ := cells12 (hk.blk (w := w2.drew) hn2 (by decide) hw2)
    obtain ⟨p0, p1⟩ := cells1 (hk.blk (w := w2.drew) hp2 (by decide) hw1)
    exact ⟨p0, a0, a1, a2, a3, a4, a5, a6, a7, a8, a9, a10, a11⟩
  have KO : Hid (∀ wx, Below w2.drew.heap.size w2.drew wx → Kw w0.heap.size wb w2.drew wx) := fun wx hb => Kw.of hb (by have e2 : w2.drew.heap.size = w2.heap.size := rfl; omega)
  have HK : Hid (Kw w0.heap.size wb w w2.drew) := kW2.drew
  clear HL hW2 kW2 hn2 hp2 hw1 hw2 hs2 hlt0
  go_region_held3 (fun wx => wx.cell? ⟨w.heap.size, 0, none⟩ = some (ptr wb) ∧ wx.cell? ⟨w.heap.size + 1, 0, none⟩ = some (.int .i64 k) ∧ wx.cell? ⟨w.heap.size + 1, 1, none⟩ = some (.int .i64 n) ∧ wx.cell? ⟨w.heap.size + 1, 2, none⟩ = some (.string s) ∧ wx.cell? ⟨w.heap.size + 1, 3, none⟩ = some (.int .i64 r.c) ∧ wx.cell? ⟨w.heap.size + 1, 4, none⟩ = some (.int .i64 r.r) ∧ wx.cell? ⟨w.heap.size + 1, 5, none⟩ = some (.bool r.fc) ∧ wx.cell? ⟨w.heap.size + 1, 6, none⟩ = some (.bool r.fr) ∧ wx.cell? ⟨w.heap.size + 1, 7, none⟩ = some (.int .i64 t.c) ∧ wx.cell? ⟨w.heap.size + 1, 8, none⟩ = some (.int .i64 t.r) ∧ wx.cell? ⟨w.heap.size + 1, 9, none⟩ = some (.bool t.fc) ∧ wx.cell? ⟨w.heap.size + 1, 10, none⟩ = some (.bool t.fr) ∧ wx.cell? ⟨w.heap.size + 1, 11, none⟩ = some (.slice p q c)) (first | exact KK.out _ (Kw.refl _ _ _) | exact KK.out _ (KO.out _ hb3) | exact KK.out _ k4) (first | (go_at_call 146; refine HLL.out.mono ?_; rintro e w3 ⟨rfl, hb3⟩) | (go_at_call 102; refine (HWR.out _ (by assumption)).mono ?_; rintro e w4 ⟨rfl, h4, k4⟩))
  all_goals
    go_wp2_with fail
    go_end0
    exact ⟨rfl, by rw [show max m (d + 0) = m from by omega]; exact h4, HK.out.trans k4⟩
end Go.Proofs.YtoebppmagkijjaaGreatDoor.fm
/- What is negative is written. Conditions: the package variables as the program's text lays them; lengths below a million. -/
namespace Go.Proofs.YtoebppmagkijjaaGreatDoor.fm
open Go.RowKit
set_option maxHeartbeats 4000000 in
set_option maxRecDepth 100000 in
theorem clos70 (B wb pb nb g o c : Nat) (k n : Int) (s : ByteArray) (r t : Rf) (k1 n1 : Int) (s1 : ByteArray) (ra rb : Rf) (v1 : Value) (w1 : World) (hp : w1.heap[pb]? = some (.cells #[ptr wb] 166 (0, 0))) (hn : w1.heap[nb]? = some (.cells (N12 k n s r t (.slice (some ⟨g, o, none⟩) 1 c)) 28 (0, 0))) (hg : g < B) (hpw : pb ≠ wb) (hnw : nb ≠ wb)
    (hkid : ∀ j x, (NV k1 n1 s1 ra rb v1).cells.toList[j]? = some x → w1.cell? ⟨g, o + j, none⟩ = some x) (R : World → Prop)
    (h : Calls Tryz.prog 143 #[ptr wb, NV k1 n1 s1 ra rb v1, .int .i64 5] w1.drew fun e w' => e = .returned (.tuple #[]) ∧ R w' ∧ Kw B wb w1.drew w') :
    Calls Tryz.prog 142 #[ptr pb, ptr nb] w1 fun e w' => e = .returned (.tuple #[]) ∧ R w' ∧ Kw B wb w1 w' := by
  have x0 := hkid 0 _ rfl
  have x1 := hkid 1 _ rfl
  have x2 := hkid 2 _ rfl
  have x3 := hkid 3 _ rfl
  have x4 := hkid 4 _ rfl
  have x5 := hkid 5 _ rfl
  have x6 := hkid 6 _ rfl
  have x7 := hkid 7 _ rfl
  have x8 := hkid 8 _ rfl
  have x9 := hkid 9 _ rfl
  have x10 := hkid 10 _ rfl
  have x11 := hkid 11 _ rfl
  have KK : Hid (∀ wx, Kw B wb w1.drew wx → wx.cell? ⟨pb, 0, none⟩ = some (ptr wb) ∧ wx.cell? ⟨nb, 11, none⟩ = some (.slice (some ⟨g, o, none⟩) 1 c) ∧ wx.cell? ⟨g, o, none⟩ = some (.int .i64 k1) ∧ wx.cell? ⟨g, o + 1, none⟩ = some (.int .i64 n1) ∧ wx.cell? ⟨g, o + 2, none⟩ = some (.string s1) ∧ wx.cell? ⟨g, o + 3, none⟩ = some (.int .i64 ra.c) ∧ wx.cell? ⟨g, o + 4, none⟩ = some (.int .i64 ra.r) ∧ wx.cell? ⟨g, o + 5, none⟩ = some (.bool ra.fc) ∧ wx.cell? ⟨g, o + 6, none⟩ = some (.bool ra.fr) ∧ wx.cell? ⟨g, o + 7, none⟩ = some (.int .i64 rb.c) ∧ wx.cell? ⟨g, o + 8, none⟩ = some (.int .i64 rb.r) ∧ wx.cell? ⟨g, o + 9, none⟩ = some (.bool rb.fc) ∧ wx.cell? ⟨g, o + 10, none⟩ = some (.bool rb.fr) ∧ wx.cell? ⟨g, o + 11, none⟩ = some (v1)) := fun wx hk => by
    have b11 := (cells12 (hk.blk (w := w1.drew) hn (by decide) hnw)).1.2.2.2.2.2.2.2.2.2.2.2
    have p0 := (cells1 (hk.blk (w := w1.drew) hp (by decide) hpw)).1
    have hc : ∀ i u, w1.cell? ⟨g, i, none⟩ = some u → wx.cell? ⟨g, i, none⟩ = some u := fun i u hu => by rw [hk.b.cell (p := ⟨g, i, none⟩) hg]; exact hu
    exact ⟨p0, b11, hc _ _ x0, hc _ _ x1, hc _ _ x2, hc _ _ x3, hc _ _ x4, hc _ _ x5, hc _ _ x6, hc _ _ x7, hc _ _ x8, hc _ _ x9, hc _ _ x10, hc _ _ x11⟩
  have HH : Hid (Calls Tryz.prog 143 #[ptr wb, NV k1 n1 s1 ra rb v1, .int .i64 5] w1.drew fun e w' => e = .returned (.tuple #[]) ∧ R w' ∧ Kw B wb w1.drew w') := h
  have HK : Hid (Kw B wb w1 w1.drew) := (Kw.refl _ _ _).drew
  have p0 := (cells1 hp).1
  have b11 := (cells12 hn).1.2.2.2.2.2.2.2.2.2.2.2
  simp only [Nat.add_zero] at x0
  clear h hp hn hkid hg hpw hnw
  go_enter Tryz.func142, Tryz.ntmps142
  go_wp2_with fail
  go_region_held3 (fun wx => wx.cell? ⟨pb, 0, none⟩ = some (ptr wb) ∧ wx.cell? ⟨nb, 11, none⟩ = some (.slice (some ⟨g, o, none⟩) 1 c) ∧ wx.cell? ⟨g, o, none⟩ = some (.int .i64 k1) ∧ wx.cell? ⟨g, o + 1, none⟩ = some (.int .i64 n1) ∧ wx.cell? ⟨g, o + 2, none⟩ = some (.string s1) ∧ wx.cell? ⟨g, o + 3, none⟩ = some (.int .i64 ra.c) ∧ wx.cell? ⟨g, o + 4, none⟩ = some (.int .i64 ra.r) ∧ wx.cell? ⟨g, o + 5, none⟩ = some (.bool ra.fc) ∧ wx.cell? ⟨g, o + 6, none⟩ = some (.bool ra.fr) ∧ wx.cell? ⟨g, o + 7, none⟩ = some (.int .i64 rb.c) ∧ wx.cell? ⟨g, o + 8, none⟩ = some (.int .i64 rb.r) ∧ wx.cell? ⟨g, o + 9, none⟩ = some (.bool rb.fc) ∧ wx.cell? ⟨g, o + 10, none⟩ = some (.bool rb.fr) ∧ wx.cell? ⟨g, o + 11, none⟩ = some (v1)) (first | exact KK.out _ (Kw.refl _ _ _) | exact KK.out _ k4) (first | (go_at_call 143; refine HH.out.mono ?_; rintro e w4 ⟨rfl, h4, k4⟩))
  all_goals
    go_wp2_with fail
    go_end0
    exact ⟨rfl, h4, HK.out.trans k4⟩
set_option maxHeartbeats 4000000 in
set_option maxRecDepth 100000 in
theorem node_neg (w0 : World) (g o c : Nat) (k1 n1 : Int) (s1 : ByteArray) (ra rb : Rf) (v1 : Value) (n : Int) (s : ByteArray) (r t : Rf) (x : List UInt8) (dp : Nat) (hg : g < w0.heap.size)
    (hkid : ∀ j x, (NV k1 n1 s1 ra rb v1).cells.toList[j]? = some x → w0.cell? ⟨g, o + j, none⟩ = some x) (hO : OpdOK w0 (NV k1 n1 s1 ra rb v1) 5 x dp) : NodeOK w0 (NV 7 n s r t (.slice (some ⟨g, o, none⟩) 1 c)) (45 :: x) (dp + 1) := by
  intro w wb y d m hb hW hdm hm hlen
  have hs0 := hb.size
  have hlt := hW.lt
  have hW2 := (hW.alloc (.cells #[ptr wb] 166)).alloc (.cells (N12 7 n s r t (.slice (some ⟨g, o, none⟩) 1 c)) 28)
  have kW2 : Kw w0.heap.size wb w ((w.alloc (.cells #[ptr wb] 166)).alloc (.cells (N12 7 n s r t (.slice (some ⟨g, o, none⟩) 1 c)) 28)) := ((Kw.refl _ _ _).alloc hs0 _).alloc (by simp; omega) _
  have hp2 : ((w.alloc (.cells #[ptr wb] 166)).alloc (.cells (N12 7 n s r t (.slice (some ⟨g, o, none⟩) 1 c)) 28)).heap[w.heap.size]? = some (.cells #[ptr wb] 166 (0, 0)) := by
    rw [Below.heap_alloc _ _ _ (by simp)]; exact blk_new _ _
  have hn2 : ((w.alloc (.cells #[ptr wb] 166)).alloc (.cells (N12 7 n s r t (.slice (some ⟨g, o, none⟩) 1 c)) 28)).heap[w.heap.size + 1]? = some (.cells (N12 7 n s r t (.slice (some ⟨g, o, none⟩) 1 c)) 28 (0, 0)) := by
    have := blk_new (w.alloc (.cells #[ptr wb] 166)) (.cells (N12 7 n s r t (.slice (some ⟨g, o, none⟩) 1 c)) 28)
    simpa using this
  have HD := deeper70 w0.heap.size wb w.heap.size (w.heap.size + 1) y x ⟨#[45]⟩ nul d m dp _ hW2 hdm (by omega) (by simp at hlen ⊢; have e1 : (⟨#[45]⟩ : ByteArray).size = 1 := rfl; have e2 : nul.size = 0 := rfl; omega) (by simp; omega) (fun w1 hW1 hk1 => by
    have hp1 := hk1.blk hp2 (by decide) (by omega)
    have hn1 := hk1.blk hn2 (by decide) (by omega)
    have hb1 := (hb.trans kW2.b).trans hk1.b
    exact clos70 w0.heap.size wb _ _ g o c 7 n s r t k1 n1 s1 ra rb v1 w1 hp1 hn1 hg (by omega) (by omega) (fun j x hx => by rw [hb1.cell (p := ⟨g, _, none⟩) hg]; exact hkid j x hx)
      (fun w' => WB w' w0.heap.size wb (y ++ (⟨#[45]⟩ : ByteArray).data.toList ++ x) (d + 1) (max (max m (d + 1)) (d + 1 + dp)))
      (hO w1.drew wb _ (d + 1) (max m (d + 1)) hb1.drew hW1.drew (by omega) (by omega) (by simp at hlen ⊢; omega)))
  have HDD : Hid (Calls Tryz.prog 141 #[ptr wb, .string ⟨#[45]⟩, .func (.func 142) #[] #[ptr w.heap.size, ptr (w.heap.size + 1)], .string nul] ((w.alloc (.cells #[ptr wb] 166)).alloc (.cells (N12 7 n s r t (.slice (some ⟨g, o, none⟩) 1 c)) 28)) fun e w' => e = .returned (.tuple #[]) ∧ WB w' w0.heap.size wb (y ++ (⟨#[45]⟩ : ByteArray).data.toList ++ x ++ nul.data.toList) d (max m (d + 1 + dp)) ∧ Kw w0.heap.size wb ((w.alloc (.cells #[ptr wb] 166)).alloc (.cells (N12 7 n s r t (.slice (some ⟨g, o, none⟩) 1 c)) 28)) w') := HD
  have hmf : ∀ (fn : Fn) (first cap : Array Value) (w : World), (Instr.makeFunc fn first cap).run Tryz.prog w = .ok (.func fn first cap) w := fun _ _ _ _ => rfl
  have HK : Hid (Kw w0.heap.size wb w ((w.alloc (.cells #[ptr wb] 166)).alloc (.cells (N12 7 n s r t (.slice (some ⟨g, o, none⟩) 1 c)) 28))) := kW2
  clear HD hO kW2 hW hW2 hp2 hn2 hb hkid
  go_enter Tryz.func103, Tryz.ntmps103
  go_wp2_with fail
  refine HDD.out.mono ?_
  rintro e w3 ⟨rfl, h3, k3⟩
  go_wp2_with fail
  go_end0
  refine ⟨rfl, ?_, HK.out.trans k3⟩
  rw [show d + (dp + 1) = d + 1 + dp from by omega]
  simpa using h3
end Go.Proofs.YtoebppmagkijjaaGreatDoor.fm
