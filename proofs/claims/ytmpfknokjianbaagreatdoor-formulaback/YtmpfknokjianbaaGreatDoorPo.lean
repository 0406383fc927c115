/- A node that can be written, as a formula's text, and its levels. Conditions: the package variables as the program's text lays them; lengths below a million. -/
import Derived.Test.YtmpfknokjianbaaGreatDoorPn
namespace Go.Proofs.YtmpfknokjianbaaGreatDoor.fm
open Go.RowKit
set_option maxHeartbeats 4000000 in
set_option maxRecDepth 100000 in
theorem write_formula (w0 : World) (hE : EnvW w0) {P : Nat → Prop} {k n : Int} {s : ByteArray} {r t : Rf} {p : Option Addr} {q c : Nat} {T0 : T} {x : List UInt8} {dp : Nat} (hW : W ink T0 x dp) (hN : Nd w0 P (NV k n s r t (.slice p q c)) T0) (hO : Ok T0) (hd : dp ≤ 500000) (hx : x.length ≤ 900000) :
    Calls Tryz.prog 26 #[NV k n s r t (.slice p q c)] w0 fun e w' => e = .returned (.tuple #[.string ⟨(61 :: x).toArray⟩, .int .i64 (dp : Nat)]) ∧ Below w0.heap.size w0 w' := by
  have hnode := node_any w0 hE hW hN hO
  clear hW hN hO hE
  have hb0 : Below w0.heap.size w0 (w0.alloc (.cells (N12 k n s r t (.slice p q c)) 28)) := (Below.refl _ _).alloc (Nat.le_refl _) _
  have hwb : ((w0.alloc (.cells (N12 k n s r t (.slice p q c)) 28)).alloc (.cells #[.pointer none, .slice none 0 0, .int .i64 0, .int .i64 0] 88)).heap[w0.heap.size + 1]? = some (.cells #[.pointer none, .slice none 0 0, .int .i64 0, .int .i64 0] 88 (0, 0)) := by
    have := blk_new (w0.alloc (.cells (N12 k n s r t (.slice p q c)) 28)) (.cells #[.pointer none, .slice none 0 0, .int .i64 0, .int .i64 0] 88)
    simpa using this
  have hW0 : WB ((w0.alloc (.cells (N12 k n s r t (.slice p q c)) 28)).alloc (.cells #[.pointer none, .slice none 0 0, .int .i64 0, .int .i64 0] 88)) w0.heap.size (w0.heap.size + 1) [] 0 0 :=
    ⟨by omega, _, _, .inl rfl, hwb, World.ownsRowF_nil _ _ _ _⟩
  have hB0 : Below w0.heap.size w0 ((w0.alloc (.cells (N12 k n s r t (.slice p q c)) 28)).alloc (.cells #[.pointer none, .slice none 0 0, .int .i64 0, .int .i64 0] 88)) := hb0.alloc (by simp) _
  have hn0 : ((w0.alloc (.cells (N12 k n s r t (.slice p q c)) 28)).alloc (.cells #[.pointer none, .slice none 0 0, .int .i64 0, .int .i64 0] 88)).heap[w0.heap.size]? = some (.cells (N12 k n s r t (.slice p q c)) 28 (0, 0)) := by
    rw [Below.heap_alloc _ _ _ (by simp)]; exact blk_new _ _
  have HW1 := write_any w0.heap.size (w0.heap.size + 1) [] 0 0 ⟨#[61]⟩ _ hW0 (by decide) (by simp; omega)
  clear hb0 hwb hW0
  go_enter Tryz.func26, Tryz.ntmps26
  go_wp2_with fail
  refine HW1.mono ?_
  clear HW1
  rintro e w2 ⟨rfl, h2, k2⟩
  have hn2 := k2.blk hn0 (by decide) (by omega)
  have hB2 := hB0.trans k2.b
  obtain ⟨⟨a0, a1, a2, a3, a4, a5, a6, a7, a8, a9, a10, a11⟩, af⟩ := cells12 hn2
  have HC := hnode w2 (w0.heap.size + 1) _ 0 0 hB2 h2 (by omega) (by omega) (by simp; omega)
  clear hnode hn0 hB0
  go_wp2_with fail
  refine HC.mono ?_
  clear HC
  rintro e w3 ⟨rfl, h3, k3⟩
  have hB3 := hB2.trans k3.b
  rw [show max 0 (0 + dp) = dp from by omega, show ([] ++ (⟨#[61]⟩ : ByteArray).data.toList ++ x) = 61 :: x from rfl] at h3
  clear a0 a1 a2 a3 a4 a5 a6 a7 a8 a9 a10 a11 af hn2 h2 k2 k3 hB2
  have h3d := h3.drew
  have c3 := h3d.cells.1.2
  have HS : Hid (Calls Tryz.prog 50 #[ptr (w0.heap.size + 1)] w3.drew fun e w' => e = .returned (.string ⟨(61 :: x).toArray⟩) ∧ w'.heap[w0.heap.size + 1]? = w3.drew.heap[w0.heap.size + 1]? ∧ Below w0.heap.size w3.drew w') := string_any _ _ _ _ _ _ h3d (by simp)
  have KC : Hid (∀ wx : World, wx.heap[w0.heap.size + 1]? = w3.drew.heap[w0.heap.size + 1]? → wx.cell? ⟨w0.heap.size + 1, 3, none⟩ = some (.int .i64 (dp : Nat))) := fun wx hx => by
    rw [World.cell?_of_block hx]; exact c3
  have HB3 : Hid (Below w0.heap.size w0 w3.drew) := hB3.drew
  obtain ⟨Z, hZ⟩ : ∃ Z : ByteArray, ⟨(61 :: x).toArray⟩ = Z := ⟨_, rfl⟩
  rw [hZ] at HS
  have HZ : Hid (⟨(61 :: x).toArray⟩ = Z) := hZ
  clear hZ h3 h3d hB3
  go_wp2_with fail
  go_region_held3 (fun wx => wx.cell? ⟨w0.heap.size + 1, 3, none⟩ = some (.int .i64 (dp : Nat))) (first | exact KC.out _ rfl | exact KC.out _ q4) (first | (go_at_call 50; with_reducible refine HS.out.mono ?_; rintro e w4 ⟨rfl, q4, b4⟩))
  all_goals
    go_wp2_with fail
    go_ret2
    exact ⟨by rw [HZ.out]; rfl, HB3.out.trans b4⟩
end Go.Proofs.YtmpfknokjianbaaGreatDoor.fm
