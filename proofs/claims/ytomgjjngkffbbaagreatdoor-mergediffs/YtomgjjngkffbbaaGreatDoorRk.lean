
/- The reference's list of arguments, which may have none yet; its tokens that are laid into a block that is there. Condition: the list has at most 1000. -/
import Derived.Test.YtomgjjngkffbbaaGreatDoorRm2
import Derived.Test.YtomgjjngkffbbaaGreatDoorRl
namespace Go.Proofs.YtomgjjngkffbbaaGreatDoor.fm
open Go.RowKit
theorem app0 (w : World) (ty : TypeId) (i0 : TypeInfo) (z : Value) (hi : Tryz.prog.info? 77 = some i0) (hz0 : i0.zero = some z) (hz1 : i0.size = 12) (hz2 : i0.bytes = 104) (hz3 : z.cells.size = 12) {h : Nat} {cs : Array Value} (hb : w.heap[h]? = some (.cells cs 77 (0, 0))) (hcs : cs.size = 12) :
    ∃ cap' w', (Builtin.append_ #[75, 75] ty #[.slice none 0 0, .slice (some ⟨h, 0, none⟩) 1 1]).run Tryz.prog w = .ok (.slice (some ⟨w.heap.size, 0, none⟩) 1 cap') w' ∧
      Row w' w.heap.size 1 cap' cs.toList ∧ Kp (fun _ => False) w w' := by
  have hnews : ∀ (j : Nat) u, cs.toList[j]? = some u → w.cell? ((⟨h, 0, none⟩ : Addr).add j) = some u := fun j u hu => by
    rw [add_off, cell_blk hb]; simpa using hu
  have hl : cs.toList.length = 1 * i0.size := by rw [hz1]; simp [hcs]
  have hlen : cs.toList.length = 1 * 12 := by simp [hcs]
  have hmax : 1001 ≤ maxLen := by unfold maxLen; omega
  have hr := run_append_nil (P := Tryz.prog) w 75 ty 77 i0 z Tryz.underlying75 hi hz0 ⟨h, 0, none⟩ 1 1 cs.toList hl hnews (by omega) (by omega) (by rw [hz2]; omega)
  refine ⟨_, _, hr, ⟨hlen, grownCap_ge w 1 0 77, grownCap_le_maxLen w 1 0 77 (by omega), _, heap_alloc_new w.drew _, ?_, ?_⟩, (Kp.refl _ _).drew.alloc _⟩
  · have := grownCap_ge w 1 0 77
    simp only [Array.size_append, size_zeroCells, hz3, hcs, Array.toArray_toList]
    omega
  · rw [Array.toList_append, Array.toArray_toList, ← hlen]; exact List.take_left
/-- A list of nodes that may have none yet. -/
def GV (wl wr : World) (sv : Value) (us : List Value) (ts : List T) : Prop :=
  (us = [] ∧ ts = [] ∧ sv = .slice none 0 0) ∨ ∃ g cap, sv = .slice (some ⟨g, 0, none⟩) us.length cap ∧ GL wl wr g cap us ts
theorem GV.next {X : Nat → Prop} {w a b : World} {sv : Value} {us : List Value} {ts : List T} (h : GV w a sv us ts) (hk : Kp X a b) (hx : ∀ n, X n → n < w.heap.size ∨ a.heap.size ≤ n) : GV w b sv us ts := by
  rcases h with h | ⟨g, cap, h1, h2⟩
  · exact .inl h
  · exact .inr ⟨g, cap, h1, h2.next hk hx⟩
theorem GV.below {w a b : World} {sv : Value} {us : List Value} {ts : List T} (h : GV w a sv us ts) (hb : Below a.heap.size a b) : GV w b sv us ts :=
  h.next (X := fun _ => False) ⟨hb.os, hb.tape, hb.output, hb.size, fun i hi _ => hb.block i hi⟩ (fun _ e => e.elim)
theorem GV.lens {w a : World} {sv : Value} {us : List Value} {ts : List T} (h : GV w a sv us ts) : us.length = ts.length := by
  rcases h with ⟨h1, h2, _⟩ | ⟨g, cap, h1, h2⟩
  · rw [h1, h2]; rfl
  · exact h2.l
theorem GV.slice {w a : World} {sv : Value} {us : List Value} {ts : List T} (h : GV w a sv us ts) : ∃ p m c, sv = .slice p m c := by
  rcases h with ⟨_, _, h3⟩ | ⟨g, cap, h1, _⟩
  · exact ⟨_, _, _, h3⟩
  · exact ⟨_, _, _, h1⟩
/-- The node that has this list. -/
theorem GV.node {w0 w a : World} {sv : Value} {us : List Value} {ts : List T} (h : GV w a sv us ts) {k n : Int} {s : ByteArray} {r t : Rf} (hle : w0.heap.size ≤ w.heap.size) : Nd a (Own w0 a) (NV k n s r t sv) (.nd k n s r t ts) := by
  rcases h with ⟨rfl, rfl, rfl⟩ | ⟨g, cap, rfl, h2⟩
  · exact .leaf
  · exact .mk ((h2.nl).k.mono (fun _ _ => rfl) (fun b hb => ⟨Nat.le_trans hle hb.1, hb.2⟩)) h2.l (fun i u t' h3 h4 => (h2.s i u t' h3 h4).mono (fun _ _ => rfl) (fun b hb => ⟨Nat.le_trans hle hb.1.1, hb.1.2⟩))
/-- One more behind it. -/
theorem appV {wl wa wb : World} {sv : Value} {us : List Value} {ts : List T} {h : Nat} {k1 n1 : Int} {s1 : ByteArray} {r1 t1 : Rf} {p1 : Option Addr} {m1 e1 : Nat} {t : T} (hA : GV wl wa sv us ts) (hG : GV wl wb sv us ts) (hN : Nd wb (Own wa wb) (NV k1 n1 s1 r1 t1 (.slice p1 m1 e1)) t) (hle : wl.heap.size ≤ wa.heap.size) (hab : wa.heap.size ≤ wb.heap.size) (hb : wb.heap[h]? = some (.cells (N12 k1 n1 s1 r1 t1 (.slice p1 m1 e1)) 77 (0, 0))) (hn : us.length ≤ 1000) :
    ∃ sv' w', (Builtin.append_ #[75, 75] 75 #[sv, .slice (some ⟨h, 0, none⟩) 1 1]).run Tryz.prog wb = .ok sv' w' ∧ GV wl w' sv' (us ++ [NV k1 n1 s1 r1 t1 (.slice p1 m1 e1)]) (ts ++ [t]) ∧ Kp (fun b => wl.heap.size ≤ b) wb w' := by
  obtain ⟨i0, hi, hz0, hz1, hz2⟩ := info28
  rcases hG with ⟨rfl, rfl, rfl⟩ | ⟨g, cap, rfl, hg⟩
  · obtain ⟨cap', w', hr, hrow, hk⟩ := app0 wb 75 i0 _ hi hz0 hz1 hz2 rfl hb rfl
    refine ⟨_, w', hr, .inr ⟨wb.heap.size, cap', rfl, ?_⟩, hk.mono (fun _ _ e => e.elim)⟩
    refine ⟨?_, by omega, rfl, ?_⟩
    · simpa [cellsL, Value.cells] using hrow
    · intro i u t' h1 h2
      cases i with
      | zero =>
        simp at h1 h2
        subst h1
        subst h2
        exact hN.mono (fun n hn => hk.block n hn.2 id) (fun n hn => ⟨⟨by have := hn.1; omega, Nat.lt_of_lt_of_le hn.2 hk.size⟩, by have := hn.2; omega⟩)
      | succ i => simp at h1
  · obtain ⟨g', cap', w', hr, hrow, hg', hk⟩ := app1 wb 75 i0 _ hi hz0 hz1 hz2 rfl hg.row hb rfl (one12 k1 n1 s1 r1 t1 p1 m1 e1) hn
    have hga : g < wa.heap.size := by
      rcases hA with ⟨_, _, e⟩ | ⟨g2, cap2, e, h2⟩
      · cases e
      · injection e with e
        injection e with e
        injection e with e
        subst e
        exact h2.row.lt
    refine ⟨_, w', hr, .inr ⟨g', cap', by simp, GL.more hg hN hga hrow (hg'.imp id (fun e => by omega)) hk⟩, hk.mono (fun n _ e => ?_)⟩
    have := hg.lo
    omega
/-- Behind a token's reading into a block that is there. -/
structure KT (w : World) (t : Tk) (kb : Nat) (wx : World) : Prop where
  blk : wx.heap[kb]? = some (.cells (K4 t) 105 (0, 0))
  kp : Kp (· = kb) w wx
theorem kt2 {w w1 : World} {t t0 : Tk} {kb : Nat} (hk : w.heap[kb]? = some (.cells (K4 t0) 105 (0, 0))) (hb : Below w.heap.size w w1) {Q : World → Prop} (h : ∀ w2, KT w t kb w2 → Q w2) :
    Q ((((w1.setCell ⟨kb, 0, none⟩ (.int .i64 t.kind)).setCell ⟨kb, 1, none⟩ (.int .i64 (t.a : Nat))).setCell ⟨kb, 2, none⟩ (.int .i64 (t.e : Nat))).setCell ⟨kb, 3, none⟩ (.string t.t)) := by
  have h1 : w1.heap[kb]? = some (.cells (K4 t0) 105 (0, 0)) := by rw [hb.block _ (lt_blk hk)]; exact hk
  refine fin4 h1 (Q := Q) fun w2 hw2 hk2 => h w2 ⟨hw2, ?_⟩
  exact Kp.trans ((Kp.refl (· = kb) w).below hb) hk2 (fun n e => .inl e)
end Go.Proofs.YtomgjjngkffbbaaGreatDoor.fm
/- The reference's call by name, and its arguments. Conditions: as each theorem says. -/
namespace Go.Proofs.YtomgjjngkffbbaaGreatDoor.fm
open Go.RowKit
section
variable (L : Lex) (s : ByteArray)
/-- What is left to be read in a call whose arguments so far are ts. -/
def XR (D : Nat) (name : ByteArray) (ts : List T) (j : Nat) : Rs T := ((Arg L s D j).bind fun t k' => More L s D (ts ++ [t]) k').bind fun l k' => .ok (tCall name l) k'
theorem Arg_skip {D a b : Nat} (ha : a ≤ s.size) (hb : b ≤ s.size) (h : skip s a = skip s b) : Arg L s D a = Arg L s D b := by
  rw [Arg_eq L s D a ha, Arg_eq L s D b hb, h]
theorem More_skip {D a b : Nat} {ts : List T} (ha : a ≤ s.size) (hb : b ≤ s.size) (h : skip s a = skip s b) : More L s D ts a = More L s D ts b := by
  rw [More_eq L s D ts a ha, More_eq L s D ts b hb, h]
end
section
variable {L : Lex} {s : ByteArray} (hs : s.size ≤ 200)
include hs
set_option maxRecDepth 100000 in
set_option maxHeartbeats 8000000 in
theorem rcall_none (pb k d : Nat) (wr0 : Int) (name : ByteArray) (w : World) (h : PD w pb s k wr0 0 (d + 1)) (hk : k < s.size) (hd : d ≤ 30) (h41 : nx s (skip s (k + 1)) = 41) :
    Calls Tryz.prog 93 #[ptr pb, .string name] w (OutR w pb s d wr0 ((Args L s (d + 1) (k + 1)).bind fun l k' => .ok (tCall name l) k')) := by
  have hlt := h.lt
  obtain ⟨⟨c0, c1, c2, c3, c4⟩, f0, f1, f2, f3, f4⟩ := h.cells
  go_enter Tryz.func93, Tryz.ntmps93
  go_upto_region 3 with fail
  clear c0 c1 c2 c3 c4 f0 f1 f2 f3 f4
  rw [show ((k : Int) + 1) = ((k + 1 : Nat) : Int) from rfl]
  have hP1 := h.setAt (k + 1)
  have hK1 := kpset w pb 1 (.int .i64 ((k + 1 : Nat) : Int))
  have hsz1 : (w.setCell ⟨pb, 1, none⟩ (.int .i64 ((k + 1 : Nat) : Int))).heap.size = w.heap.size := by simp [World.setCell]
  generalize w.setCell ⟨pb, 1, none⟩ (.int .i64 ((k + 1 : Nat) : Int)) = v1 at *
  have hPa := (hP1.alloc (.cells NZ 77)).alloc (.cells (N12 9 0 name .z .z (.slice none 0 0)) 77)
  have hKa : Kp (· = pb) w ((v1.alloc (.cells NZ 77)).alloc (.cells (N12 9 0 name .z .z (.slice none 0 0)) 77)) := (hK1.alloc _).alloc _
  have hra : ((v1.alloc (.cells NZ 77)).alloc (.cells (N12 9 0 name .z .z (.slice none 0 0)) 77)).heap[w.heap.size]? = some (.cells NZ 77 (0, 0)) := by rw [Below.heap_alloc _ _ _ (by simp; omega), ← hsz1]; exact blk_new _ _
  have hna : ((v1.alloc (.cells NZ 77)).alloc (.cells (N12 9 0 name .z .z (.slice none 0 0)) 77)).heap[w.heap.size + 1]? = some (.cells (N12 9 0 name .z .z (.slice none 0 0)) 77 (0, 0)) := by
    have := blk_new (v1.alloc (.cells NZ 77)) (.cells (N12 9 0 name .z .z (.slice none 0 0)) 77)
    simpa [hsz1] using this
  have hsa : ((v1.alloc (.cells NZ 77)).alloc (.cells (N12 9 0 name .z .z (.slice none 0 0)) 77)).heap.size = w.heap.size + 2 := by simp [hsz1]
  generalize ((v1.alloc (.cells NZ 77)).alloc (.cells (N12 9 0 name .z .z (.slice none 0 0)) 77)) = wa at *
  have HSA : Hid (wa.heap.size = w.heap.size + 2) := hsa
  clear hP1 hK1 hsz1 hsa
  have hk1 : k + 1 ≤ s.size := hk
  have HT : Hid (∀ w, Calls Tryz.prog 54 #[.string s, .int .i64 ((k + 1 : Nat) : Int)] w fun e w' => e = .returned (KV (tkR s (k + 1)).kind ((tkR s (k + 1)).a : Nat) ((tkR s (k + 1)).e : Nat) (tkR s (k + 1)).t) ∧ Below w.heap.size w w') := fun w => token_at s (k + 1) w hs hk1
  have HBY : Hid _ := tk_byte s (k + 1) 41 (.inr (.inl rfl)) hk1
  generalize tkR s (k + 1) = tk0 at *
  obtain ⟨⟨c0, c1, c2, c3, c4⟩, f0, f1, f2, f3, f4⟩ := hPa.cells
  go_cut [6] (fun s6 wx => ∃ kb, s6 = ptr kb ∧ KS wa tk0 kb wx)
  case first =>
    have hlt0 := hPa.lt
    have hne : wa.heap.size ≠ pb := by omega
    have hne' : pb ≠ wa.heap.size := by omega
    have KK : Hid (∀ wx, Below wa.heap.size wa wx → wx.cell? ⟨pb, 0, none⟩ = some (.string s) ∧ wx.cell? ⟨pb, 1, none⟩ = some (.int .i64 ((k + 1 : Nat) : Int))) := fun wx hb => ⟨(hb.cell (p := ⟨pb, 0, none⟩) hlt0).trans c0, (hb.cell (p := ⟨pb, 1, none⟩) hlt0).trans c1⟩
    clear c0 c1 c2 c3 c4 f0 f1 f2 f3 f4
    go_region_held3 (fun wx => wx.cell? ⟨pb, 0, none⟩ = some (.string s) ∧ wx.cell? ⟨pb, 1, none⟩ = some (.int .i64 ((k + 1 : Nat) : Int))) (exact KK.out _ (by (repeat (first | exact Below.refl _ _ | assumption | (refine Below.setCell ?_ (by first | exact Nat.le_refl _ | omega) _) | (refine Below.alloc ?_ (by first | exact Nat.le_refl _ | exact hb'.size | omega | (simp <;> omega)) _) | (refine Below.drew ?_))))) ((go_at_call 54; refine (HT.out _).mono ?_; rintro e w1 ⟨rfl, hb⟩; have hb' : Below wa.heap.size wa w1 := (by first | exact kb1 hb | exact kb2 hb); first | (have hz := kz_a hb; have hz4 := cells4f hz; obtain ⟨⟨z0, z1, z2, z3⟩, y0, y1, y2, y3⟩ := hz4) | skip))
    all_goals
      go_wp2_with fail
      go_meet
      case rel => first | exact ⟨_, rfl, ks3 hb⟩ | exact ks2 hb (Q := fun W => ∃ kb, _ = ptr kb ∧ KS wa tk0 kb W) (fun w2 h2 => ⟨_, rfl, h2⟩)
  case rest =>
  obtain ⟨kb, rfl, hS⟩ := hcut
  clear c0 c1 c2 c3 c4 f0 f1 f2 f3 f4 HT
  have hlo := hS.lo
  have hsa := HSA.out
  have hPc : PD wc pb s (k + 1) wr0 0 (d + 1) := hPa.below hS.below
  have hrc : wc.heap[w.heap.size]? = some (.cells NZ 77 (0, 0)) := by rw [hS.below.block _ (by omega)]; exact hra
  have hnc : wc.heap[w.heap.size + 1]? = some (.cells (N12 9 0 name .z .z (.slice none 0 0)) 77 (0, 0)) := by rw [hS.below.block _ (by omega)]; exact hna
  have hKc : Kp (· = pb) w wc := hKa.below hS.below
  have hkp : kb ≠ pb := by omega
  have hkr : kb ≠ w.heap.size := by omega
  have hkn : kb ≠ w.heap.size + 1 := by omega
  have hkc := hS.blk
  clear hra hna hPa hKa hS hsa hlo HSA
  obtain ⟨⟨z0, z1, z2, z3⟩, y0, y1, y2, y3⟩ := cells4f hkc
  have HAR : Hid ((Args L s (d + 1) (k + 1)).bind (fun l k' => .ok (tCall name l) k') = .ok (tCall name []) (skip s (k + 1) + 1)) := by
    unfold Hid
    rw [Args_eq L s (d + 1) (k + 1) hk1, if_pos h41]
    rfl
  obtain ⟨q1, q2⟩ := HBY.out.1.2 h41
  have q1' : (tk0.kind == 4) = true := beq_iff_eq.2 q1
  have H41 : Hid (nx s (skip s (k + 1)) = 41) := h41
  clear HBY q1 h41
  go_wp2_with fail
  go_at_call 97
  refine (rclose_any pb (k + 1) d wr0 0 s hs _ hPc hk1 hd).mono ?_
  rintro e w6 ⟨rfl, ⟨j2, wr2, bd2, hP6, hj2, hsh⟩, hK6⟩
  have HSH : Hid _ := hsh
  clear hsh z0 z1 z2 z3 y0 y1 y2 y3
  have hr6 := hK6.blk hrc (by omega)
  have hn6 := hK6.blk hnc (by omega)
  have hKw6 := hKc.trans hK6 (fun n e => .inl e)
  obtain ⟨⟨g0, g1, g2, g3, g4, g5, g6, g7, g8, g9, g10, g11⟩, gf⟩ := cells12 hn6
  obtain ⟨⟨d0, d1, d2, d3, d4, d5, d6, d7, d8, d9, d10, d11⟩, df⟩ := cells12 hr6
  go_wp2_with fail
  clear g0 g1 g2 g3 g4 g5 g6 g7 g8 g9 g10 g11 gf d0 d1 d2 d3 d4 d5 d6 d7 d8 d9 d10 d11 df
  refine fin12 hr6 (Q := bodyPost _ _ _ _ _) ?_
  intro w9 hq9 hk9
  obtain ⟨⟨b0, b1, b2, b3, b4, b5, b6, b7, b8, b9, b10, b11⟩, bf⟩ := cells12 hq9
  refine bodyPost_ret (v := NV 9 0 name .z .z (.slice none 0 0)) (by simp [results, Tryz.results93, go_sem, b0, b1, b2, b3, b4, b5, b6, b7, b8, b9, b10, b11]) rfl ?_
  have hP9 := hP6.keep hk9 (by omega)
  have hK9 := hKw6.trans hk9 (fun n e => by right; omega)
  rw [HAR.out]
  rcases HSH.out with ⟨hn, _⟩ | ⟨_, _, rfl, rfl, rfl⟩ | ⟨_, hn, _⟩
  · exact absurd rfl hn
  · exact ⟨_, _, rfl, Nd.leaf, hP9, hj2, rfl, hK9⟩
  · exact absurd H41.out hn
end
end Go.Proofs.YtomgjjngkffbbaaGreatDoor.fm
