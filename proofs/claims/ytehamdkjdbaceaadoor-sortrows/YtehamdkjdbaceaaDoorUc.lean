
/- Package sort: the order of two rows, as the sort asks for it. Conditions: as each theorem says. -/
import Derived.Test.YtehamdkjdbaceaaDoorUb
namespace Go.Proofs.YtehamdkjdbaceaaDoor.so
open Go.RowKit Go.Sort Go.Shelf
theorem tm_at2 {w : World} {g o : Nat} {T : Tb} (hg : g < w.heap.size) (h : ∀ i, i < T.q → w.cell? ⟨g, o + i, none⟩ = some (.slice (T.P i) (T.L i) (T.C i)) ∧ VM w (T.P i) (T.L i) (T.v i)) {i : Nat} (hi : i < T.q) (n : Nat) (os : Array Obj) :
    (grow (w.drewN n) os).cell? ⟨g, o + i, none⟩ = some (.slice (T.P i) (T.L i) (T.C i)) := by
  have hb : Below w.heap.size w (grow (w.drewN n) os) := Gr.below ⟨n, os, rfl⟩
  rw [hb.cell (p := ⟨g, _, none⟩) hg]
  exact (h i hi).1
theorem bx_at {w : World} {b : Nat} {v : Value} (h : Bx w b v) (n : Nat) (os : Array Obj) : (grow (w.drewN n) os).cell? ⟨b, 0, none⟩ = some v := by
  have hb : Below w.heap.size w (grow (w.drewN n) os) := Gr.below ⟨n, os, rfl⟩
  rw [hb.cell (p := ⟨b, _, none⟩) h.2]
  exact h.1
set_option maxRecDepth 100000 in
set_option maxHeartbeats 4000000 in
theorem order_any (T : Tb) (p : Option Addr) (cp : Nat) (p3 : Option Addr) (n c3 : Nat) (c : Nat → Int) (d : Nat → Bool) (b2 b3 : Nat) (x y : Nat) (w : World) (hx : x < T.q) (hy : y < T.q) (hS : Snd T) (hn : n ≤ 12) (hco : ∀ i, i < n → colOk T (c i)) (hT : TM w p T) (hK : KM w p3 n c d) (h2 : Bx w b2 (.slice p T.q cp)) (h3 : Bx w b3 (.slice p3 n c3)) :
    Calls Tryd.prog 24 #[.int .i64 (x : Nat), .int .i64 (y : Nat), .pointer (some ⟨b2, 0, none⟩), .pointer (some ⟨b3, 0, none⟩)] w fun e w' => e = .returned (.int .i64 (crw (T.v x) (T.v y) c d n 0)) ∧ Gr w w' := by
  have hq60 := hS.few
  rcases hT with h | ⟨g, o, rfl, hg, h4⟩
  · omega
  have c1 := fun m os => tm_at2 hg h4 hx m os
  have c2 := fun m os => tm_at2 hg h4 hy m os
  have e2 := fun m os => bx_at h2 m os
  have e3 := fun m os => bx_at h3 m os
  have hc := fun m os => compareRows_any (T.P x) (T.L x) (T.C x) (T.v x) (T.P y) (T.L y) (T.C y) (T.v y) p3 n c3 c d (grow (w.drewN m) os) ((h4 x hx).2.next (Gr.below ⟨m, os, rfl⟩)) ((h4 y hy).2.next (Gr.below ⟨m, os, rfl⟩)) (hK.next (Gr.below ⟨m, os, rfl⟩)) hn (fun i hi => by
    have k1 := hS.col (hco i hi) hx
    have k2 := hS.col (hco i hi) hy
    exact ⟨k1.1, k1.2.1, k2.2.1⟩)
  have hx0 : (0 : Int) ≤ (x : Int) := by omega
  have hy0 : (0 : Int) ≤ (y : Int) := by omega
  have hxq : (x : Int) < (T.q : Int) := by omega
  have hyq : (y : Int) < (T.q : Int) := by omega
  generalize crw (T.v x) (T.v y) c d n 0 = r at *
  clear h4 hK h2 h3 hS hco hg hn
  generalize T.P x = px at *
  generalize T.P y = py at *
  generalize T.L x = lx at *
  generalize T.L y = ly at *
  generalize T.C x = cx at *
  generalize T.C y = cy at *
  generalize T.q = q at *
  have mixed := mixed
  go_enter Tryd.func24, Tryd.ntmps24
  go_upto_region 1 with fail
  go_quiet_grown (first | (go_at_call 25; refine Calls.grown_of (hc _ _)))
  have HB : Hid (Gr w (grow (w.drewN nq) osq)) := ⟨nq, osq, rfl⟩
  clear c1 c2 e2 e3 hc
  generalize grow (w.drewN nq) osq = w2 at *
  go_wp2_with fail
  go_ret
  exact ⟨rfl, HB.out⟩
end Go.Proofs.YtehamdkjdbaceaaDoor.so
