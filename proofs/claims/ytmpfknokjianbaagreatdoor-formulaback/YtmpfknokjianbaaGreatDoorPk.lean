/- What is negative is written. Conditions: the package variables as the program's text lays them; lengths below a million. -/
import Derived.Test.YtmpfknokjianbaaGreatDoorPj
import Derived.Test.YtmpfknokjianbaaGreatDoorSm2
namespace Go.Proofs.YtmpfknokjianbaaGreatDoor.fm
open Go.RowKit
set_option maxHeartbeats 4000000 in
set_option maxRecDepth 100000 in
theorem clos70 (B wb pb nb g o c : Nat) (k n : Int) (s : ByteArray) (r t : Rf) (k1 n1 : Int) (s1 : ByteArray) (ra rb : Rf) (v1 : Value) (w1 : World) (hp : w1.heap[pb]? = some (.cells #[ptr wb] 117 (0, 0))) (hn : w1.heap[nb]? = some (.cells (N12 k n s r t (.slice (some ⟨g, o, none⟩) 1 c)) 28 (0, 0))) (hg : g < B) (hpw : pb ≠ wb) (hnw : nb ≠ wb)
    (hkid : ∀ j x, (NV k1 n1 s1 ra rb v1).cells.toList[j]? = some x → w1.cell? ⟨g, o + j, none⟩ = some x) (R : World → Prop)
    (h : Calls Tryz.prog 71 #[ptr wb, NV k1 n1 s1 ra rb v1, .int .i64 5] w1.drew fun e w' => e = .returned (.tuple #[]) ∧ R w' ∧ Kw B wb w1.drew w') :
    Calls Tryz.prog 70 #[ptr pb, ptr nb] w1 fun e w' => e = .returned (.tuple #[]) ∧ R w' ∧ Kw B wb w1 w' := by
  have x0 := hkid 0 _ rfl
  have x1 := hkid 1 _ rfl
  have x2 := hkid 2 _ rfl
  have x3 := hkid 3 _ rfl
  have x4 := hkid 4 _ rfl
  have x5 := hkid 5 _ rfl
  have x6 := hkid 6 _ rfl
  have x7 := hkid 7 _ rfl
  have x8 := hkid 8 _ rfl
  have x9 := hkid 9 _ rfl
  have x10 := hkid 10 _ rfl
  have x11 := hkid 11 _ rfl
  have KK : Hid (∀ wx, Kw B wb w1.drew wx → wx.cell? ⟨pb, 0, none⟩ = some (ptr wb) ∧ wx.cell? ⟨nb, 11, none⟩ = some (.slice (some ⟨g, o, none⟩) 1 c) ∧ wx.cell? ⟨g, o, none⟩ = some (.int .i64 k1) ∧ wx.cell? ⟨g, o + 1, none⟩ = some (.int .i64 n1) ∧ wx.cell? ⟨g, o + 2, none⟩ = some (.string s1) ∧ wx.cell? ⟨g, o + 3, none⟩ = some (.int .i64 ra.c) ∧ wx.cell? ⟨g, o + 4, none⟩ = some (.int .i64 ra.r) ∧ wx.cell? ⟨g, o + 5, none⟩ = some (.bool ra.fc) ∧ wx.cell? ⟨g, o + 6, none⟩ = some (.bool ra.fr) ∧ wx.cell? ⟨g, o + 7, none⟩ = some (.int .i64 rb.c) ∧ wx.cell? ⟨g, o + 8, none⟩ = some (.int .i64 rb.r) ∧ wx.cell? ⟨g, o + 9, none⟩ = some (.bool rb.fc) ∧ wx.cell? ⟨g, o + 10, none⟩ = some (.bool rb.fr) ∧ wx.cell? ⟨g, o + 11, none⟩ = some (v1)) := fun wx hk => by
    have b11 := (cells12 (hk.blk (w := w1.drew) hn (by decide) hnw)).1.2.2.2.2.2.2.2.2.2.2.2
    have p0 := (cells1 (hk.blk (w := w1.drew) hp (by decide) hpw)).1
    have hc : ∀ i u, w1.cell? ⟨g, i, none⟩ = some u → wx.cell? ⟨g, i, none⟩ = some u := fun i u hu => by rw [hk.b.cell (p := ⟨g, i, none⟩) hg]; exact hu
    exact ⟨p0, b11, hc _ _ x0, hc _ _ x1, hc _ _ x2, hc _ _ x3, hc _ _ x4, hc _ _ x5, hc _ _ x6, hc _ _ x7, hc _ _ x8, hc _ _ x9, hc _ _ x10, hc _ _ x11⟩
  have HH : Hid (Calls Tryz.prog 71 #[ptr wb, NV k1 n1 s1 ra rb v1, .int .i64 5] w1.drew fun e w' => e = .returned (.tuple #[]) ∧ R w' ∧ Kw B wb w1.drew w') := h
  have HK : Hid (Kw B wb w1 w1.drew) := (Kw.refl _ _ _).drew
  have p0 := (cells1 hp).1
  have b11 := (cells12 hn).1.2.2.2.2.2.2.2.2.2.2.2
  simp only [Nat.add_zero] at x0
  clear h hp hn hkid hg hpw hnw
  go_enter Tryz.func70, Tryz.ntmps70
  go_wp2_with fail
  go_region_held3 (fun wx => wx.cell? ⟨pb, 0, none⟩ = some (ptr wb) ∧ wx.cell? ⟨nb, 11, none⟩ = some (.slice (some ⟨g, o, none⟩) 1 c) ∧ wx.cell? ⟨g, o, none⟩ = some (.int .i64 k1) ∧ wx.cell? ⟨g, o + 1, none⟩ = some (.int .i64 n1) ∧ wx.cell? ⟨g, o + 2, none⟩ = some (.string s1) ∧ wx.cell? ⟨g, o + 3, none⟩ = some (.int .i64 ra.c) ∧ wx.cell? ⟨g, o + 4, none⟩ = some (.int .i64 ra.r) ∧ wx.cell? ⟨g, o + 5, none⟩ = some (.bool ra.fc) ∧ wx.cell? ⟨g, o + 6, none⟩ = some (.bool ra.fr) ∧ wx.cell? ⟨g, o + 7, none⟩ = some (.int .i64 rb.c) ∧ wx.cell? ⟨g, o + 8, none⟩ = some (.int .i64 rb.r) ∧ wx.cell? ⟨g, o + 9, none⟩ = some (.bool rb.fc) ∧ wx.cell? ⟨g, o + 10, none⟩ = some (.bool rb.fr) ∧ wx.cell? ⟨g, o + 11, none⟩ = some (v1)) (first | exact KK.out _ (Kw.refl _ _ _) | exact KK.out _ k4) (first | (go_at_call 71; refine HH.out.mono ?_; rintro e w4 ⟨rfl, h4, k4⟩))
  all_goals
    go_wp2_with fail
    go_end0
    exact ⟨rfl, h4, HK.out.trans k4⟩
set_option maxHeartbeats 4000000 in
set_option maxRecDepth 100000 in
theorem node_neg (w0 : World) (g o c : Nat) (k1 n1 : Int) (s1 : ByteArray) (ra rb : Rf) (v1 : Value) (n : Int) (s : ByteArray) (r t : Rf) (x : List UInt8) (dp : Nat) (hg : g < w0.heap.size)
    (hkid : ∀ j x, (NV k1 n1 s1 ra rb v1).cells.toList[j]? = some x → w0.cell? ⟨g, o + j, none⟩ = some x) (hO : OpdOK w0 (NV k1 n1 s1 ra rb v1) 5 x dp) : NodeOK w0 (NV 7 n s r t (.slice (some ⟨g, o, none⟩) 1 c)) (45 :: x) (dp + 1) := by
  intro w wb y d m hb hW hdm hm hlen
  have hs0 := hb.size
  have hlt := hW.lt
  have hW2 := (hW.alloc (.cells #[ptr wb] 117)).alloc (.cells (N12 7 n s r t (.slice (some ⟨g, o, none⟩) 1 c)) 28)
  have kW2 : Kw w0.heap.size wb w ((w.alloc (.cells #[ptr wb] 117)).alloc (.cells (N12 7 n s r t (.slice (some ⟨g, o, none⟩) 1 c)) 28)) := ((Kw.refl _ _ _).alloc hs0 _).alloc (by simp; omega) _
  have hp2 : ((w.alloc (.cells #[ptr wb] 117)).alloc (.cells (N12 7 n s r t (.slice (some ⟨g, o, none⟩) 1 c)) 28)).heap[w.heap.size]? = some (.cells #[ptr wb] 117 (0, 0)) := by
    rw [Below.heap_alloc _ _ _ (by simp)]; exact blk_new _ _
  have hn2 : ((w.alloc (.cells #[ptr wb] 117)).alloc (.cells (N12 7 n s r t (.slice (some ⟨g, o, none⟩) 1 c)) 28)).heap[w.heap.size + 1]? = some (.cells (N12 7 n s r t (.slice (some ⟨g, o, none⟩) 1 c)) 28 (0, 0)) := by
    have := blk_new (w.alloc (.cells #[ptr wb] 117)) (.cells (N12 7 n s r t (.slice (some ⟨g, o, none⟩) 1 c)) 28)
    simpa using this
  have HD := deeper70 w0.heap.size wb w.heap.size (w.heap.size + 1) y x ⟨#[45]⟩ nul d m dp _ hW2 hdm (by omega) (by simp at hlen ⊢; have e1 : (⟨#[45]⟩ : ByteArray).size = 1 := rfl; have e2 : nul.size = 0 := rfl; omega) (by simp; omega) (fun w1 hW1 hk1 => by
    have hp1 := hk1.blk hp2 (by decide) (by omega)
    have hn1 := hk1.blk hn2 (by decide) (by omega)
    have hb1 := (hb.trans kW2.b).trans hk1.b
    exact clos70 w0.heap.size wb _ _ g o c 7 n s r t k1 n1 s1 ra rb v1 w1 hp1 hn1 hg (by omega) (by omega) (fun j x hx => by rw [hb1.cell (p := ⟨g, _, none⟩) hg]; exact hkid j x hx)
      (fun w' => WB w' w0.heap.size wb (y ++ (⟨#[45]⟩ : ByteArray).data.toList ++ x) (d + 1) (max (max m (d + 1)) (d + 1 + dp)))
      (hO w1.drew wb _ (d + 1) (max m (d + 1)) hb1.drew hW1.drew (by omega) (by omega) (by simp at hlen ⊢; omega)))
  have HDD : Hid (Calls Tryz.prog 69 #[ptr wb, .string ⟨#[45]⟩, .func (.func 70) #[] #[ptr w.heap.size, ptr (w.heap.size + 1)], .string nul] ((w.alloc (.cells #[ptr wb] 117)).alloc (.cells (N12 7 n s r t (.slice (some ⟨g, o, none⟩) 1 c)) 28)) fun e w' => e = .returned (.tuple #[]) ∧ WB w' w0.heap.size wb (y ++ (⟨#[45]⟩ : ByteArray).data.toList ++ x ++ nul.data.toList) d (max m (d + 1 + dp)) ∧ Kw w0.heap.size wb ((w.alloc (.cells #[ptr wb] 117)).alloc (.cells (N12 7 n s r t (.slice (some ⟨g, o, none⟩) 1 c)) 28)) w') := HD
  have hmf : ∀ (fn : Fn) (first cap : Array Value) (w : World), (Instr.makeFunc fn first cap).run Tryz.prog w = .ok (.func fn first cap) w := fun _ _ _ _ => rfl
  have HK : Hid (Kw w0.heap.size wb w ((w.alloc (.cells #[ptr wb] 117)).alloc (.cells (N12 7 n s r t (.slice (some ⟨g, o, none⟩) 1 c)) 28))) := kW2
  clear HD hO kW2 hW hW2 hp2 hn2 hb hkid
  go_enter Tryz.func49, Tryz.ntmps49
  go_wp2_with fail
  refine HDD.out.mono ?_
  rintro e w3 ⟨rfl, h3, k3⟩
  go_wp2_with fail
  go_end0
  refine ⟨rfl, ?_, HK.out.trans k3⟩
  rw [show d + (dp + 1) = d + 1 + dp from by omega]
  simpa using h3
end Go.Proofs.YtmpfknokjianbaaGreatDoor.fm
