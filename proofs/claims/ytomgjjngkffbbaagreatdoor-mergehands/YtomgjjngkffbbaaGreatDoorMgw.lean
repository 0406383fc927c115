
/- A list of cells with their texts, and a list of cells beside it, that grow. Conditions: as each theorem says. -/
import Derived.Test.YtomgjjngkffbbaaGreatDoorMgp
namespace Go.Proofs.YtomgjjngkffbbaaGreatDoor.fw
open Go Go.RowKit Go.Sort
theorem own_kept {w w' : World} {base t s n : Nat} {v : Value} {xs : List Value} (h : w.ownsRow base t s v n xs) (hk : ∀ b, v.ownBlock = some b → w'.heap[b]? = w.heap[b]?) : w'.ownsRow base t s v n xs := by
  obtain ⟨h0, h | ⟨g, cap, cur, h1, h2, h3, h4⟩⟩ := h
  · exact ⟨h0, Or.inl h⟩
  · exact ⟨h0, Or.inr ⟨g, cap, cur, h1, h2, by rw [hk g (by rw [h1]; rfl)]; exact h3, h4⟩⟩
theorem own_blk {w : World} {base t s n : Nat} {v : Value} {xs : List Value} (h : w.ownsRow base t s v n xs) {b : Nat} (hb : v.ownBlock = some b) : ∃ cs, w.heap[b]? = some (.cells cs t (0, 0)) := by
  obtain ⟨-, ⟨rfl, -⟩ | ⟨g, cap, cur, rfl, -, h3, -⟩⟩ := h
  · cases hb
  · obtain rfl : g = b := by simpa [Value.ownBlock] using hb
    exact ⟨_, h3⟩
/-- What lies elsewhere stays where a list gets one element more. -/
theorem RV.one2 {α β : Type} {L : EL α} {M : EL β} (ht : L.ty ≠ M.ty) {w : World} {v u : Value} {xs : List α} {ys : List β} {wx : World} (h : RV L w v xs wx) (h2 : RV M w u ys wx) (S : TypeId) {z : Value} {b : Nat} (hu : Tryz.prog.underlying S = some (.slice L.ty)) (hin : (Tryz.prog.info? L.ty).map (fun i => (i.zero, i.size, i.bytes)) = some (some z, L.k, b)) (hz : z.cells.size = L.k) (hk : 0 < L.k) (hl : (xs.length + 1) * b ≤ 140737488355328) (hm : xs.length + 1 ≤ 9223372036854775807) (y : α) (vs : Array Value) (hy : vs.toList = L.enc y) :
    ∃ g c w', (Builtin.append_ #[S, S] S #[v, .slice (some ⟨wx.heap.size, 0, none⟩) 1 1]).run Tryz.prog (wx.alloc (.cells vs L.ty)) = .ok (.slice (some ⟨g, 0, none⟩) (xs.length + 1) c) w' ∧ RV L w (.slice (some ⟨g, 0, none⟩) (xs.length + 1) c) (xs ++ [y]) w' ∧ RV M w u ys w' ∧ ∀ (q : Nat) (cs : Array Value) (t : TypeId), t ≠ L.ty → wx.heap[q]? = some (.cells cs t (0, 0)) → w'.heap[q]? = some (.cells cs t (0, 0)) := by
  obtain ⟨i0, hi, hz0, hz1, hz2⟩ := info_parts hin
  have hmax : maxLen = 9223372036854775807 := rfl
  have h1 := h.next (Bw.al wx (.cells vs L.ty))
  have h3 := h2.next (Bw.al wx (.cells vs L.ty))
  obtain ⟨g, c, w', r1, r2, r3, -, -⟩ := run_append_lies (P := Tryz.prog) (w := wx.alloc (.cells vs L.ty)) S S w.heap.size L.ty i0 z L.k b hu hi hz0 hz1 hz2 hz hk v xs.length (L.cs xs) h1.own ⟨wx.heap.size, 0, none⟩ 1 1 (L.enc y) (by rw [L.len, Nat.one_mul]) (by rw [← hy]; exact World.news_of_block (heap_alloc_new wx _)) (L.one y) (by decide) (by omega) hl h1.below.size _ rfl
  have hb : Bw w w' := h1.below.grown r3 h1.below.size (fun q hq => (h1.own.lt q hq).1)
  refine ⟨g, c, w', r1, ⟨?_, hb⟩, ⟨own_kept h3.own fun q hq => ?_, hb⟩, fun q cs t hne hq => ?_⟩
  · rw [L.cs_app, L.cs_one, List.length_append]
    exact r2
  · refine r3.block q (h3.own.lt q hq).2 fun e => ?_
    obtain ⟨c1, g1⟩ := own_blk h1.own e.symm
    obtain ⟨c2, g2⟩ := own_blk h3.own hq
    rw [g1] at g2
    injection g2 with e1
    injection e1 with e2 e3
    exact ht e3
  · have hlt : q < wx.heap.size := (Array.getElem?_eq_some_iff.1 hq).1
    rw [r3.block q (by simp; omega) fun e => ?_]
    · rw [heap_alloc_old wx _ hlt]
      exact hq
    · obtain ⟨c1, g1⟩ := own_blk h.own e.symm
      rw [hq] at g1
      injection g1 with e1
      injection e1 with e2 e3
      exact hne e3
theorem ty_fc : fL.ty ≠ cL.ty := by decide
theorem RV.fill2 {w : World} {v u : Value} {xs : List ps.Fl} {ys : List (Int × Int)} {wx : World} (h : RV fL w v xs wx) (h2 : RV cL w u ys wx) (hl : xs.length ≤ 10000) (c r : Int) (s : ByteArray) :
    ∃ g k w', (Builtin.append_ #[22, 22] 22 #[v, .slice (some ⟨wx.heap.size, 0, none⟩) 1 1]).run Tryz.prog (wx.alloc (.cells #[.int .i64 c, .int .i64 r, .string s] 45)) = .ok (.slice (some ⟨g, 0, none⟩) (xs.length + 1) k) w' ∧ RV fL w (.slice (some ⟨g, 0, none⟩) (xs.length + 1) k) (xs ++ [⟨c, r, s⟩]) w' ∧ RV cL w u ys w' ∧ ∀ (q : Nat) (cs : Array Value) (t : TypeId), t ≠ fL.ty → wx.heap[q]? = some (.cells cs t (0, 0)) → w'.heap[q]? = some (.cells cs t (0, 0)) :=
  h.one2 ty_fc h2 22 (b := 32) Tryz.underlying22 infoF rfl (by decide) (by omega) (by omega) ⟨c, r, s⟩ _ rfl
theorem RV.cell2 {w : World} {v u : Value} {xs : List ps.Fl} {ys : List (Int × Int)} {wx : World} (h : RV fL w v xs wx) (h2 : RV cL w u ys wx) (hl : ys.length ≤ 10000) (c r : Int) :
    ∃ g k w', (Builtin.append_ #[33, 33] 33 #[u, .slice (some ⟨wx.heap.size, 0, none⟩) 1 1]).run Tryz.prog (wx.alloc (.cells #[.int .i64 c, .int .i64 r] 43)) = .ok (.slice (some ⟨g, 0, none⟩) (ys.length + 1) k) w' ∧ RV fL w v xs w' ∧ RV cL w (.slice (some ⟨g, 0, none⟩) (ys.length + 1) k) (ys ++ [(c, r)]) w' := by
  obtain ⟨g, k, w', e1, e2, e3, -⟩ := h2.one2 ty_fc.symm h 33 (b := 16) Tryz.underlying33 infoC rfl (by decide) (by omega) (by omega) (c, r) _ rfl
  exact ⟨g, k, w', e1, e3, e2⟩
end Go.Proofs.YtomgjjngkffbbaaGreatDoor.fw
