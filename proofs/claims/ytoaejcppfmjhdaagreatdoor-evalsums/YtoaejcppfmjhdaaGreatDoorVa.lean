/- Package eval: a loop over what comes of the arguments of a call, as truths. Conditions: as each theorem says. -/
import Derived.Test.YtoaejcppfmjhdaaGreatDoorEp
import Derived.RangeFuncNested
import Derived.RangeFuncBound
import Derived.RangeFuncCalls
import Derived.RangeFuncLeaves
import Derived.RangeFuncBox
import Derived.Maps.AppendAt
import Derived.Shelf.Abstract
import Derived.Shelf.RegionOpen
import Derived.WalkKit
import Derived.OwnWalkIn
import Derived.TacticsInMore
import Derived.LoopNIn
import Derived.LoopIn
import Derived.Laws.EntriesVeiled
import Derived.Test.YtoaejcppfmjhdaaGreatDoorEl
namespace Go.Proofs.YtoaejcppfmjhdaaGreatDoor.ov
open Go.RowKit Go.Shelf
open ev (VV fin3 cells3v frz blk_else)
attribute [local go_sem] Oper.semAt_some
/-- A value, and whether it stands in a box. -/
structure It where
  k : Int
  n : Int
  s : ByteArray
  b : Bool
structure V3 where
  k : Int
  n : Int
  s : ByteArray
abbrev It.enc (x : It) : Array Value := #[VV x.k x.n x.s, .bool x.b]
def skp (ct : Int → Bool) (x : It) : Bool := x.b && !(x.k == 4) && !(ct x.k)
def good (rd : Int → Int → ByteArray → V3) (ct : Int → Bool) (x : It) : Bool := skp ct x || !((rd x.k x.n x.s).k == 4)
def ovN (rd : Int → Int → ByteArray → V3) (ct : Int → Bool) (xs : List It) : List Int := (xs.filter fun x => !skp ct x).map fun x => (rd x.k x.n x.s).n
theorem ovN_skip {rd : Int → Int → ByteArray → V3} {ct : Int → Bool} {xs : List It} {x : It} (h : skp ct x = true) : ovN rd ct (xs ++ [x]) = ovN rd ct xs := by simp [ovN, h]
theorem ovN_take {rd : Int → Int → ByteArray → V3} {ct : Int → Bool} {xs : List It} {x : It} (h : skp ct x = false) : ovN rd ct (xs ++ [x]) = ovN rd ct xs ++ [(rd x.k x.n x.s).n] := by simp [ovN, h]
theorem ovN_len (rd : Int → Int → ByteArray → V3) (ct : Int → Bool) (xs : List It) : (ovN rd ct xs).length ≤ xs.length := by
  unfold ovN; rw [List.length_map]; exact List.length_filter_le _ _
theorem blk_own {β : Type} (B : Nat) (cs : Array Value) (t : TypeId) : Own (fun (_ : β) W => W.heap[B]? = some (.cells cs t (0, 0))) := fun s X Y row hs hg hrow =>
  (hg.block B (fm.lt_blk hs) (fun e => by
    obtain ⟨o', h1, h2⟩ := hrow B e.symm
    rw [hs] at h1
    cases h1
    cases h2)).trans hs
theorem below_keeps {W W' : World} (h : Below W.heap.size W W') : KeepsOthers W W' := ⟨h.size, fun k _ hk _ => (h.block k (fm.lt_blk hk)).trans hk⟩
theorem own_below {w w' : World} {base n : Nat} {v : Value} {xs : List Value} (h : w.ownsRow base 3 1 v n xs) (hb : Below w.heap.size w w') : w'.ownsRow base 3 1 v n xs := by
  obtain ⟨h0, h | ⟨g, cap, cur, h1, h2, h3, h4⟩⟩ := h
  · exact ⟨h0, Or.inl h⟩
  · exact ⟨h0, Or.inr ⟨g, cap, cur, h1, h2, by rw [hb.block g (fm.lt_blk h3)]; exact h3, h4⟩⟩
theorem set3_ex {w : World} {b : Nat} {a0 a1 a2 : Value} {t : TypeId} (h : w.heap[b]? = some (.cells #[a0, a1, a2] t (0, 0))) (u0 u1 u2 : Value) :
    ∃ w2, ((w.setCell ⟨b, 0, none⟩ u0).setCell ⟨b, 1, none⟩ u1).setCell ⟨b, 2, none⟩ u2 = w2 ∧ w2.heap[b]? = some (.cells #[u0, u1, u2] t (0, 0)) ∧ (∀ B, B ≤ b → Below B w w2) ∧ (∀ i, i ≠ b → w2.heap[i]? = w.heap[i]?) ∧ KeepsOthers w w2 := by
  have h0 : (w.setCell ⟨b, 0, none⟩ u0).heap[b]? = some (.cells #[u0, a1, a2] t (0, 0)) := by rw [fm.blk_set h]; rfl
  have h1 : ((w.setCell ⟨b, 0, none⟩ u0).setCell ⟨b, 1, none⟩ u1).heap[b]? = some (.cells #[u0, u1, a2] t (0, 0)) := by rw [fm.blk_set h0]; rfl
  have h2 : (((w.setCell ⟨b, 0, none⟩ u0).setCell ⟨b, 1, none⟩ u1).setCell ⟨b, 2, none⟩ u2).heap[b]? = some (.cells #[u0, u1, u2] t (0, 0)) := by rw [fm.blk_set h1]; rfl
  exact ⟨_, rfl, h2, fun B hB => (((Below.refl _ _).setCell hB _).setCell hB _).setCell hB _, fun i hi => by rw [blk_else hi, blk_else hi, blk_else hi], ((KeepsOthers.setCell _ _ _).trans (KeepsOthers.setCell _ _ _)).trans (KeepsOthers.setCell _ _ _)⟩
theorem own_keep {w w' : World} {base n b : Nat} {v : Value} {xs : List Value} {cs : Array Value} {t : TypeId} (h : w.ownsRow base 3 1 v n xs) (hb : w.heap[b]? = some (.cells cs t (0, 0))) (ht : t ≠ 3) (he : ∀ i, i ≠ b → w'.heap[i]? = w.heap[i]?) : w'.ownsRow base 3 1 v n xs := by
  obtain ⟨h0, h | ⟨g, cap, cur, h1, h2, h3, h4⟩⟩ := h
  · exact ⟨h0, Or.inl h⟩
  · refine ⟨h0, Or.inr ⟨g, cap, cur, h1, h2, ?_, h4⟩⟩
    rw [he g (fun e => by rw [e, hb] at h3; injection h3 with h3; injection h3 with h5 h6; exact ht h6)]; exact h3
theorem blk_not_row {W : World} {B base k : Nat} {cs : Array Value} {t : TypeId} {v : Value} {xs : List Value} (h : W.heap[B]? = some (.cells cs t (0, 0))) (ht : t ≠ 3) (hr : W.ownsRow base 3 1 v k xs) : some B ≠ v.ownBlock := by
  intro e
  rcases hr.2 with ⟨rfl, _⟩ | ⟨g, cap, cur, rfl, _, hgb, _⟩
  · simp [Value.ownBlock] at e
  · obtain rfl : B = g := by simpa [Value.ownBlock] using e
    rw [h] at hgb; injection hgb with hgb; injection hgb with h5 h6; exact ht h6
/-- What lay below n lies as it lay, and so does each block that holds what is called for a round. -/
structure KB (n : Nat) (W W' : World) : Prop where
  below : Below n W W'
  keep : ∀ (b : Nat) (v : Value), W.heap[b]? = some (.cells #[v] 180 (0, 0)) → W'.heap[b]? = some (.cells #[v] 180 (0, 0))
theorem KB.refl (n : Nat) (W : World) : KB n W W := ⟨Below.refl _ _, fun _ _ h => h⟩
theorem KB.trans {n : Nat} {A B C : World} (h : KB n A B) (k : KB n B C) : KB n A C := ⟨h.below.trans k.below, fun b v e => k.keep b v (h.keep b v e)⟩
theorem KB.of {n : Nat} {W W' : World} (h : Below W.heap.size W W') (hn : n ≤ W.heap.size) : KB n W W' := ⟨h.mono hn, fun b _ e => (h.block b (fm.lt_blk e)).trans e⟩
theorem KB.set {n : Nat} {W W' : World} {b : Nat} {cs : Array Value} {t : TypeId} (h : Below n W W') (hb : W.heap[b]? = some (.cells cs t (0, 0))) (ht : t ≠ 180) (he : ∀ i, i ≠ b → W'.heap[i]? = W.heap[i]?) : KB n W W' :=
  ⟨h, fun i v e => (he i (fun q => by rw [q, hb] at e; injection e with e; injection e with e1 e2; exact ht e2)).trans e⟩
theorem KB.put {n : Nat} {w : World} (hn : n ≤ w.heap.size) (W : World) (l : Nat) (o o' : Obj) (hl : w.heap.size ≤ l) (h : W.heap[l]? = some o) (h1 : o.isCells = false) (h2 : o.isWalk = false) : KB n W (W.putObj l o') :=
  ⟨belowK_b hn W l o o' hl h h1 h2, fun b v e => ((grownBy_putObj' W l o').block b (fm.lt_blk e) (fun q => by cases q; rw [h] at e; cases e; cases h1)).trans e⟩
theorem KB.app {n : Nat} {W w1 : World} {base k B t : Nat} {v v' u : Value} {xs : List Value} {tmp : Obj} (hr : W.ownsRow base 3 1 v k xs) (hg : (W.alloc tmp).grownBy w1 v.ownBlock) (hB : Boxed w1 B t u) (ht : t ≠ 180) (h : Below n W (w1.setCell ⟨B, 0, none⟩ v')) : KB n W (w1.setCell ⟨B, 0, none⟩ v') :=
  ⟨h, fun i x e => by
    have h1 : w1.heap[i]? = some (.cells #[x] 180 (0, 0)) := (hg.block i (by simp; have := fm.lt_blk e; omega) (blk_not_row e (by decide) hr)).trans ((Below.heap_alloc _ _ _ (fm.lt_blk e)).trans e)
    exact (blk_else (fun q => by rw [q, hB] at h1; injection h1 with h1; injection h1 with e1 e2; exact ht e2)).trans h1⟩
theorem info3 : (Tryz.prog.info? 3).map (fun i => (i.zero, i.size, i.bytes)) = some (some (.int .i64 0), 1, 8) := by kernel_rfl
abbrev ctT (k : Int) : Bool := k == 1 || k == 3
/-- What holds between two rounds. -/
def OI (rd : Int → Int → ByteArray → V3) (ct : Int → Bool) (w : World) (pre : List It) (W : World) : Prop :=
  (((∀ y ∈ pre, good rd ct y = true) ∧ W.heap[w.heap.size]? = some (.cells #[.int .i64 0, .int .i64 0, .string nul] 31 (0, 0))) ∧ (∃ v, Boxed W (w.heap.size + 1) 218 v ∧ W.ownsRow w.heap.size 3 1 v (ovN rd ct pre).length ((ovN rd ct pre).map (Value.int .i64)) ∧ True)) ∧ Below w.heap.size w W
/-- What holds where a round has left. -/
def OX (rd : Int → Int → ByteArray → V3) (ct : Int → Bool) (w : World) (c : Code) (pre : List It) (W : World) : Prop :=
  (c = .ret ∧ ∃ q x, pre = q ++ [x] ∧ (∀ y ∈ q, good rd ct y = true) ∧ good rd ct x = false ∧ W.heap[w.heap.size]? = some (.cells #[.int .i64 (rd x.k x.n x.s).k, .int .i64 (rd x.k x.n x.s).n, .string (rd x.k x.n x.s).s] 31 (0, 0))) ∧ Below w.heap.size w W
theorem OI.own (rd : Int → Int → ByteArray → V3) (ct : Int → Bool) (w : World) {B : Nat} (hB : w.heap.size ≤ B) : OwnFrom B (OI rd ct w) :=
  OwnFrom.and (OwnFrom.and (OwnFrom.and (ownFrom_pure _ _) (Own.from (blk_own _ _ _) _)) (Own.from (holdsRow_own w.heap.size (w.heap.size + 1) 218 3 1 (fun pre => (ovN rd ct pre).length) (fun pre => (ovN rd ct pre).map (Value.int .i64)) (fun _ _ => True)) _)) (ownFrom_below (Nat.le_refl _) hB)
theorem OX.own (rd : Int → Int → ByteArray → V3) (ct : Int → Bool) (w : World) (c : Code) {B : Nat} (hB : w.heap.size ≤ B) : OwnFrom B (OX rd ct w c) :=
  OwnFrom.and (fun s X Y row hs hg hr => by
    obtain ⟨h1, q, x, h2, h3, h4, h5⟩ := hs
    exact ⟨h1, q, x, h2, h3, h4, blk_own (β := Unit) _ _ _ () X Y row h5 hg (fun r e => (hr r e).2)⟩) (ownFrom_below (Nat.le_refl _) hB)
set_option maxRecDepth 100000 in
set_option maxHeartbeats 8000000 in
theorem over_tr (rd : Int → Int → ByteArray → V3) (xs : List It) (hlen : xs.length ≤ 1000000) (lb : Array Value) (Kw pc pr pw : Nat) (r : V3) (w : World)
    (hc : Boxed w pc 147 (.func (.func 240) #[] #[])) (hr : Boxed w pr 60 (.func (.func 241) #[] #[])) (hw : Boxed w pw 178 (.func (.func Kw) #[] #[]))
    (hE : Hid (∀ v wx, Sem.run Tryz.prog (callFunc Kw #[v]) wx = .ok (.enter Kw #[v]) wx))
    (hseq : SeqStopsK Fence.wide 4 Tryz.prog 265 lb It.enc (KB w.heap.size) (fun ys => ys = xs) (fun pre => pre <+: xs) xs.length w)
    (HI : Hid (∀ k n s wx, Calls Tryz.prog 170 #[VV k n s] wx fun e w' => e = .returned (.bool (k == 4)) ∧ Below wx.heap.size wx w'))
    (HT : Hid (∀ k wx, Calls Tryz.prog 240 #[.int .i64 k] wx fun e w' => e = .returned (.bool (ctT k)) ∧ Below wx.heap.size wx w'))
    (HR : Hid (∀ k n s wx, Below w.heap.size w wx → Calls Tryz.prog 241 #[VV k n s] wx fun e w' => e = .returned (VV (rd k n s).k (rd k n s).n (rd k n s).s) ∧ Below wx.heap.size wx w'))
    (hbad : Hid (∀ pre x, pre ++ [x] <+: xs → (∀ y ∈ pre, good rd ctT y = true) → good rd ctT x = false → r = rd x.k x.n x.s))
    (HW : Hid ((∀ y ∈ xs, good rd ctT y = true) → ∀ wx v, Below w.heap.size w wx → wx.ownsRow w.heap.size 3 1 v (ovN rd ctT xs).length ((ovN rd ctT xs).map (Value.int .i64)) → Calls Tryz.prog Kw #[v] wx fun e w' => e = .returned (VV r.k r.n r.s) ∧ Below wx.heap.size wx w')) :
    Calls Tryz.prog 267 #[.func (.func 265) #[] lb, .pointer (some ⟨pc, 0, none⟩), .pointer (some ⟨pr, 0, none⟩), .pointer (some ⟨pw, 0, none⟩)] w fun e w' => e = .returned (VV r.k r.n r.s) ∧ Below w.heap.size w w' := by
  obtain ⟨i0, hi, hz0, hz1, hz2⟩ := info_parts info3
  refine (callsIn_wide (n := 5)).1 ?_
  refine callsIn_of_wp_marks Tryz.func267 rfl trivial ?_ rfl
  simp only [Tryz.ntmps267, List.size_toArray, List.length_cons, List.length_nil, Nat.reduceAdd, Nat.reduceSub, Array.replicate_succ, Array.replicate_zero, List.push_toArray, List.append_toArray, List.nil_append, List.cons_append]
  gi_wp2
  have hA : ((w.alloc (.cells #[.int .i64 0, .int .i64 0, .string nul] 31)).alloc (.cells #[.slice none 0 0] 218)).heap[w.heap.size]? = some (.cells #[.int .i64 0, .int .i64 0, .string nul] 31 (0, 0)) := (((Below.refl (w.heap.size + 1) _).alloc (by simp) _).block w.heap.size (by omega)).trans (heap_alloc_new w _)
  have bO := Boxed.new (w.alloc (.cells #[.int .i64 0, .int .i64 0, .string nul] 31)) 218 (.slice none 0 0)
  rw [World.size_alloc] at bO
  have hB0 : Below w.heap.size w ((w.alloc (.cells #[.int .i64 0, .int .i64 0, .string nul] 31)).alloc (.cells #[.slice none 0 0] 218)) := ((Below.refl _ w).alloc (Nat.le_refl _) _).alloc (by simp) _
  have hsz : ((w.alloc (.cells #[.int .i64 0, .int .i64 0, .string nul] 31)).alloc (.cells #[.slice none 0 0] 218)).heap.size = w.heap.size + 2 := by simp
  obtain ⟨W0, hW0⟩ : ∃ W0, (w.alloc (.cells #[.int .i64 0, .int .i64 0, .string nul] 31)).alloc (.cells #[.slice none 0 0] 218) = W0 := ⟨_, rfl⟩
  rw [hW0] at hA bO hB0 hsz ⊢
  clear hW0
  refine wpIn_rangeFunc_ownH rfl (by omega) (gf := 265) (lb := lb) rfl trivial (enters_of Tryz.func265 (by kernel_rfl) rfl)
    hseq KB.trans (KB.put (by omega)) hB0 (fun _ => rfl)
    (OI rd ctT w) (OX rd ctT w) (OI.own rd _ w (by omega)) (fun c => OX.own rd _ w c (by omega))
    ⟨⟨⟨by simp, hA⟩, _, bO, World.ownsRow_nil _ _ _ _, trivial⟩, hB0⟩
    (fun x a' W => ∃ Bx, w.heap.size + 1 < Bx ∧ W.heap[Bx]? = some (.cells #[.int .i64 x.k, .int .i64 x.n, .string x.s] 31 (0, 0)) ∧ a' = { tmps := #[.func (.func 265) #[] lb, .pointer (some ⟨pc, 0, none⟩), .pointer (some ⟨pr, 0, none⟩), .pointer (some ⟨pw, 0, none⟩), undef, .pointer (some ⟨w.heap.size, 0, none⟩), .pointer (some ⟨w.heap.size + 1, 0, none⟩), .pointer (some ⟨Bx, 0, none⟩), .bool x.b, .func (.func 265) #[] lb, VV x.k x.n x.s, .bool x.b, undef, undef, undef, undef, undef, undef, undef, undef, undef, undef, undef, undef, undef, undef, undef, undef, undef, undef, undef, undef, undef, undef, undef, undef, undef, undef, undef], defers := [] })
    (fun x a' _ X Y row hs hg hr => by obtain ⟨Bx, e1, e2, e3⟩ := hs; exact ⟨Bx, e1, blk_own (β := Unit) _ _ _ () X Y row e2 hg (fun r e => (hr r e).2), e3⟩)
    ?assign ?body ?done ?stop
  case assign =>
    rintro l pre x W K ⟨⟨⟨hp, hA1⟩, v, bO1, hr1, -⟩, hB1⟩ hK
    gi_wp2
    have hq2 := heap_alloc_new W (.cells #[.int .i64 x.k, .int .i64 x.n, .string x.s] 31)
    have hBW := (Below.refl W.heap.size W).alloc (Nat.le_refl _) (.cells #[.int .i64 x.k, .int .i64 x.n, .string x.s] 31)
    exact hK _ _ ((below_keeps hBW).from _) (KB.of hBW hB1.size) ⟨⟨⟨hp, (hBW.block _ (fm.lt_blk hA1)).trans hA1⟩, v, (hBW.block _ bO1.lt).trans bO1, own_below hr1 hBW, trivial⟩, bnext hB1 hBW hB1.size⟩ ⟨W.heap.size, bO1.lt, hq2, rfl⟩
  case body =>
    rintro l pre ⟨k, n, s, b⟩ a' W hl ⟨rl, hrl⟩ ⟨⟨⟨hp, hA1⟩, v, bO1, hr1, -⟩, hB1⟩ ⟨Bx, hBx, bX, rfl⟩ hlt
    dsimp only at bX ⊢
    have hc1 := Boxed.cell ((hB1.block _ hc.lt).trans hc)
    have hrr1 := Boxed.cell ((hB1.block _ hr.lt).trans hr)
    obtain ⟨x0, x1, x2⟩ := cells3v bX
    have hWW : KB w.heap.size W W := KB.refl _ _
    have hKW := KeepsOthers.refl W
    cases b with
    | false =>
      gi_wp2_with fail
      refine ⟨trivial, ?_⟩
      gi_wp2_with fail
      refine ⟨fun _ h => (by cases h), ?_⟩
      gi_wp2_with fail
      refine ⟨trivial, ?_⟩
      refine (CallsIn.inRound l (callsIn_wide.2 (HR.out k n s _ hB1))).mono ?_
      rintro e w1 ⟨rfl, hb1⟩
      obtain ⟨R, hR⟩ : ∃ R, rd k n s = R := ⟨_, rfl⟩
      rw [hR]
      obtain ⟨rk, rn, rs⟩ := R
      dsimp only
      have bX1 := (hb1.block _ (fm.lt_blk bX)).trans bX
      obtain ⟨y0, y1, y2⟩ := cells3v bX1
      have fX := frz bX1
      clear x0 x1 x2
      gi_wp2_with fail
      refine ⟨trivial, ?_⟩
      obtain ⟨w2, hw2, hq2, hk2, he2, hko2⟩ := set3_ex bX1 (.int .i64 rk) (.int .i64 rn) (.string rs)
      rw [hw2]
      clear hw2 y0 y1 y2 fX
      refine (CallsIn.inRound l (callsIn_wide.2 (HI.out rk rn rs w2))).mono ?_
      rintro e w3 ⟨rfl, hb3⟩
      have hX3 := (hb3.block _ (fm.lt_blk hq2)).trans hq2
      have hW2 : Below w.heap.size w w2 := (bnext hB1 hb1 hB1.size).trans (hk2 _ (by omega))
      have hwW3 : Below w.heap.size w w3 := bnext hW2 hb3 hW2.size
      have hW3 : KB w.heap.size W w3 := ((hWW.trans (KB.of hb1 hB1.size)).trans (KB.set (hk2 _ (by omega)) bX1 (by decide) he2)).trans (KB.of hb3 hW2.size)
      have hKo3 : KeepsOthers W w3 := ((hKW.trans (below_keeps hb1)).trans hko2).trans (below_keeps hb3)
      have hA3 : w3.heap[w.heap.size]? = some (.cells #[.int .i64 0, .int .i64 0, .string nul] 31 (0, 0)) := by
        have h2 : w2.heap[w.heap.size]? = some (.cells #[.int .i64 0, .int .i64 0, .string nul] 31 (0, 0)) := by rw [he2 _ (by omega), hb1.block _ (fm.lt_blk hA1)]; exact hA1
        exact (hb3.block _ (fm.lt_blk h2)).trans h2
      have bO3 : Boxed w3 (w.heap.size + 1) 218 v := by
        have h2 : w2.heap[w.heap.size + 1]? = some (.cells #[v] 218 (0, 0)) := by rw [he2 _ (by omega), hb1.block _ bO1.lt]; exact bO1
        exact (hb3.block _ (fm.lt_blk h2)).trans h2
      have hr3 := own_below (own_keep (own_below hr1 hb1) bX1 (by decide) he2) hb3
      have hpl := ovN_len rd ctT pre
      have hsk : skp ctT ⟨k, n, s, false⟩ = false := rfl
      obtain ⟨y0, y1, y2⟩ := cells3v hX3
      cases h4 : (rk == 4) with
      | true =>
        have hg : good rd ctT ⟨k, n, s, false⟩ = false := by unfold good; rw [hsk]; dsimp only; rw [hR]; simp [h4]
        obtain ⟨z0, z1, z2⟩ := cells3v hA3
        have fA := frz hA3
        gi_wp2_with fail
        obtain ⟨w4, hw4, hq4, hk4, he4, hko4⟩ := set3_ex hA3 (.int .i64 rk) (.int .i64 rn) (.string rs)
        rw [hw4]
        exact ⟨(hKo3.trans hko4).from _, ⟨rfl, pre, ⟨k, n, s, false⟩, rfl, hp, hg, by dsimp only; rw [hR]; exact hq4⟩, hwW3.trans (hk4 _ (Nat.le_refl _))⟩
      | false =>
        have hg : good rd ctT ⟨k, n, s, false⟩ = true := by unfold good; rw [hsk]; dsimp only; rw [hR]; simp [h4]
        have hcO := bO3.cell
        gi_wp2_with (gi_at_builtin; refine wpListIn_append_own _ rfl _ _ 218 rfl w.heap.size 3 i0 (.int .i64 0) 1 8 Tryz.underlying218 hi hz0 hz1 hz2 rfl (by decide) _ _ _ rfl (hr3.alloc _) ⟨w3.heap.size, 0, none⟩ 1 1 [.int .i64 rn] rfl rfl (cell_one_new _ _ _) (by simp [Value.oneCell']) (by unfold maxLen; omega) (by omega) (by have := hwW3.size; simp; omega) ?_; intro v' w5 hown' hgrow _; obtain ⟨g', cap', rfl⟩ := ownsRow_succ hown'; have hA5 : w5.heap[w.heap.size]? = some (.cells #[.int .i64 0, .int .i64 0, .string nul] 31 (0, 0)) := (hgrow.block _ (by simp; have := fm.lt_blk hA3; omega) (blk_not_row hA3 (by decide) hr3)).trans ((Below.heap_alloc _ _ _ (fm.lt_blk hA3)).trans hA3); obtain ⟨hv1, hv2, hr2, hk6, hb6⟩ := bO3.appended (by decide) hr3 hwW3.size (by omega) hown' hgrow; have hc5 := hv1.cell; have hf5 := hv1.frozen)
        exact ⟨(hKo3.trans hk6).from _, hW3.trans (KB.app hr3 hgrow hv1 (by decide) hb6), ⟨⟨⟨fun y hy => (List.mem_append.1 hy).elim (hp y) (fun e => by simp at e; subst e; exact hg), (blk_else (by omega)).trans hA5⟩, _, hv2, by rw [ovN_take hsk]; dsimp only; rw [hR]; simpa using hr2, trivial⟩, hwW3.trans hb6⟩⟩
    | true =>
      gi_wp2_with fail
      refine ⟨trivial, ?_⟩
      refine (CallsIn.inRound l (callsIn_wide.2 (HI.out k n s W))).mono ?_
      rintro e Wa ⟨rfl, hba⟩
      have hBa : Below w.heap.size w Wa := bnext hB1 hba hB1.size
      have hAa := (hba.block _ (fm.lt_blk hA1)).trans hA1
      have bOa : Boxed Wa (w.heap.size + 1) 218 v := (hba.block _ bO1.lt).trans bO1
      have hra := own_below hr1 hba
      have bXa := (hba.block _ (fm.lt_blk bX)).trans bX
      have hca := Boxed.cell ((hBa.block _ hc.lt).trans hc)
      have hrra := Boxed.cell ((hBa.block _ hr.lt).trans hr)
      have hWWa : KB w.heap.size W Wa := KB.of hba hB1.size
      have hKWa := below_keeps hba
      have hszW := hB1.size
      obtain ⟨x0a, x1a, x2a⟩ := cells3v bXa
      clear x0 x1 x2 hc1 hrr1
      cases hk4 : (k == 4) with
      | true =>
        gi_wp2_with fail
        refine ⟨fun _ h => (by cases h), ?_⟩
        gi_wp2_with fail
        refine ⟨trivial, ?_⟩
        refine (CallsIn.inRound l (callsIn_wide.2 (HR.out k n s _ hBa))).mono ?_
        rintro e w1 ⟨rfl, hb1⟩
        obtain ⟨R, hR⟩ : ∃ R, rd k n s = R := ⟨_, rfl⟩
        rw [hR]
        obtain ⟨rk, rn, rs⟩ := R
        dsimp only
        have bX1 := (hb1.block _ (fm.lt_blk bXa)).trans bXa
        obtain ⟨y0, y1, y2⟩ := cells3v bX1
        have fX := frz bX1
        clear x0a x1a x2a
        gi_wp2_with fail
        refine ⟨trivial, ?_⟩
        obtain ⟨w2, hw2, hq2, hk2, he2, hko2⟩ := set3_ex bX1 (.int .i64 rk) (.int .i64 rn) (.string rs)
        rw [hw2]
        clear hw2 y0 y1 y2 fX
        refine (CallsIn.inRound l (callsIn_wide.2 (HI.out rk rn rs w2))).mono ?_
        rintro e w3 ⟨rfl, hb3⟩
        have hX3 := (hb3.block _ (fm.lt_blk hq2)).trans hq2
        have hW2 : Below w.heap.size w w2 := (bnext hBa hb1 hBa.size).trans (hk2 _ (by omega))
        have hwW3 : Below w.heap.size w w3 := bnext hW2 hb3 hW2.size
        have hW3 : KB w.heap.size W w3 := ((hWWa.trans (KB.of hb1 hBa.size)).trans (KB.set (hk2 _ (by omega)) bX1 (by decide) he2)).trans (KB.of hb3 hW2.size)
        have hKo3 : KeepsOthers W w3 := ((hKWa.trans (below_keeps hb1)).trans hko2).trans (below_keeps hb3)
        have hA3 : w3.heap[w.heap.size]? = some (.cells #[.int .i64 0, .int .i64 0, .string nul] 31 (0, 0)) := by
          have h2 : w2.heap[w.heap.size]? = some (.cells #[.int .i64 0, .int .i64 0, .string nul] 31 (0, 0)) := by rw [he2 _ (by omega), hb1.block _ (fm.lt_blk hAa)]; exact hAa
          exact (hb3.block _ (fm.lt_blk h2)).trans h2
        have bO3 : Boxed w3 (w.heap.size + 1) 218 v := by
          have h2 : w2.heap[w.heap.size + 1]? = some (.cells #[v] 218 (0, 0)) := by rw [he2 _ (by omega), hb1.block _ bOa.lt]; exact bOa
          exact (hb3.block _ (fm.lt_blk h2)).trans h2
        have hr3 := own_below (own_keep (own_below hra hb1) bX1 (by decide) he2) hb3
        have hpl := ovN_len rd ctT pre
        have hsk : skp ctT ⟨k, n, s, true⟩ = false := by unfold skp; dsimp only; rw [hk4]; rfl
        obtain ⟨y0, y1, y2⟩ := cells3v hX3
        cases h4 : (rk == 4) with
        | true =>
          have hg : good rd ctT ⟨k, n, s, true⟩ = false := by unfold good; rw [hsk]; dsimp only; rw [hR]; simp [h4]
          obtain ⟨z0, z1, z2⟩ := cells3v hA3
          have fA := frz hA3
          gi_wp2_with fail
          obtain ⟨w4, hw4, hq4, hk4, he4, hko4⟩ := set3_ex hA3 (.int .i64 rk) (.int .i64 rn) (.string rs)
          rw [hw4]
          exact ⟨(hKo3.trans hko4).from _, ⟨rfl, pre, ⟨k, n, s, true⟩, rfl, hp, hg, by dsimp only; rw [hR]; exact hq4⟩, hwW3.trans (hk4 _ (Nat.le_refl _))⟩
        | false =>
          have hg : good rd ctT ⟨k, n, s, true⟩ = true := by unfold good; rw [hsk]; dsimp only; rw [hR]; simp [h4]
          have hcO := bO3.cell
          gi_wp2_with (gi_at_builtin; refine wpListIn_append_own _ rfl _ _ 218 rfl w.heap.size 3 i0 (.int .i64 0) 1 8 Tryz.underlying218 hi hz0 hz1 hz2 rfl (by decide) _ _ _ rfl (hr3.alloc _) ⟨w3.heap.size, 0, none⟩ 1 1 [.int .i64 rn] rfl rfl (cell_one_new _ _ _) (by simp [Value.oneCell']) (by unfold maxLen; omega) (by omega) (by have := hwW3.size; simp; omega) ?_; intro v' w5 hown' hgrow _; obtain ⟨g', cap', rfl⟩ := ownsRow_succ hown'; have hA5 : w5.heap[w.heap.size]? = some (.cells #[.int .i64 0, .int .i64 0, .string nul] 31 (0, 0)) := (hgrow.block _ (by simp; have := fm.lt_blk hA3; omega) (blk_not_row hA3 (by decide) hr3)).trans ((Below.heap_alloc _ _ _ (fm.lt_blk hA3)).trans hA3); obtain ⟨hv1, hv2, hr2, hk6, hb6⟩ := bO3.appended (by decide) hr3 hwW3.size (by omega) hown' hgrow; have hc5 := hv1.cell; have hf5 := hv1.frozen)
          exact ⟨(hKo3.trans hk6).from _, hW3.trans (KB.app hr3 hgrow hv1 (by decide) hb6), ⟨⟨⟨fun y hy => (List.mem_append.1 hy).elim (hp y) (fun e => by simp at e; subst e; exact hg), (blk_else (by omega)).trans hA5⟩, _, hv2, by rw [ovN_take hsk]; dsimp only; rw [hR]; simpa using hr2, trivial⟩, hwW3.trans hb6⟩⟩
      | false =>
        gi_wp2_with fail
        refine ⟨trivial, ?_⟩
        refine (CallsIn.inRound l (callsIn_wide.2 (HT.out k Wa))).mono ?_
        rintro e Wb ⟨rfl, hbb⟩
        have hBb : Below w.heap.size w Wb := bnext hBa hbb hBa.size
        have hAb := (hbb.block _ (fm.lt_blk hAa)).trans hAa
        have bOb : Boxed Wb (w.heap.size + 1) 218 v := (hbb.block _ bOa.lt).trans bOa
        have hrb := own_below hra hbb
        have bXb := (hbb.block _ (fm.lt_blk bXa)).trans bXa
        have hrrb := Boxed.cell ((hBb.block _ hr.lt).trans hr)
        have hWWb : KB w.heap.size W Wb := hWWa.trans (KB.of hbb hBa.size)
        have hKWb := hKWa.trans (below_keeps hbb)
        obtain ⟨x0b, x1b, x2b⟩ := cells3v bXb
        clear x0a x1a x2a hca hrra
        cases hct : ctT k with
        | true =>
          gi_wp2_with fail
          refine ⟨trivial, ?_⟩
          refine (CallsIn.inRound l (callsIn_wide.2 (HR.out k n s _ hBb))).mono ?_
          rintro e w1 ⟨rfl, hb1⟩
          obtain ⟨R, hR⟩ : ∃ R, rd k n s = R := ⟨_, rfl⟩
          rw [hR]
          obtain ⟨rk, rn, rs⟩ := R
          dsimp only
          have bX1 := (hb1.block _ (fm.lt_blk bXb)).trans bXb
          obtain ⟨y0, y1, y2⟩ := cells3v bX1
          have fX := frz bX1
          clear x0b x1b x2b
          gi_wp2_with fail
          refine ⟨trivial, ?_⟩
          obtain ⟨w2, hw2, hq2, hk2, he2, hko2⟩ := set3_ex bX1 (.int .i64 rk) (.int .i64 rn) (.string rs)
          rw [hw2]
          clear hw2 y0 y1 y2 fX
          refine (CallsIn.inRound l (callsIn_wide.2 (HI.out rk rn rs w2))).mono ?_
          rintro e w3 ⟨rfl, hb3⟩
          have hX3 := (hb3.block _ (fm.lt_blk hq2)).trans hq2
          have hW2 : Below w.heap.size w w2 := (bnext hBb hb1 hBb.size).trans (hk2 _ (by omega))
          have hwW3 : Below w.heap.size w w3 := bnext hW2 hb3 hW2.size
          have hW3 : KB w.heap.size W w3 := ((hWWb.trans (KB.of hb1 hBb.size)).trans (KB.set (hk2 _ (by omega)) bX1 (by decide) he2)).trans (KB.of hb3 hW2.size)
          have hKo3 : KeepsOthers W w3 := ((hKWb.trans (below_keeps hb1)).trans hko2).trans (below_keeps hb3)
          have hA3 : w3.heap[w.heap.size]? = some (.cells #[.int .i64 0, .int .i64 0, .string nul] 31 (0, 0)) := by
            have h2 : w2.heap[w.heap.size]? = some (.cells #[.int .i64 0, .int .i64 0, .string nul] 31 (0, 0)) := by rw [he2 _ (by omega), hb1.block _ (fm.lt_blk hAb)]; exact hAb
            exact (hb3.block _ (fm.lt_blk h2)).trans h2
          have bO3 : Boxed w3 (w.heap.size + 1) 218 v := by
            have h2 : w2.heap[w.heap.size + 1]? = some (.cells #[v] 218 (0, 0)) := by rw [he2 _ (by omega), hb1.block _ bOb.lt]; exact bOb
            exact (hb3.block _ (fm.lt_blk h2)).trans h2
          have hr3 := own_below (own_keep (own_below hrb hb1) bX1 (by decide) he2) hb3
          have hpl := ovN_len rd ctT pre
          have hsk : skp ctT ⟨k, n, s, true⟩ = false := by unfold skp; dsimp only; rw [hk4, hct]; rfl
          obtain ⟨y0, y1, y2⟩ := cells3v hX3
          cases h4 : (rk == 4) with
          | true =>
            have hg : good rd ctT ⟨k, n, s, true⟩ = false := by unfold good; rw [hsk]; dsimp only; rw [hR]; simp [h4]
            obtain ⟨z0, z1, z2⟩ := cells3v hA3
            have fA := frz hA3
            gi_wp2_with fail
            obtain ⟨w4, hw4, hq4, hk4, he4, hko4⟩ := set3_ex hA3 (.int .i64 rk) (.int .i64 rn) (.string rs)
            rw [hw4]
            exact ⟨(hKo3.trans hko4).from _, ⟨rfl, pre, ⟨k, n, s, true⟩, rfl, hp, hg, by dsimp only; rw [hR]; exact hq4⟩, hwW3.trans (hk4 _ (Nat.le_refl _))⟩
          | false =>
            have hg : good rd ctT ⟨k, n, s, true⟩ = true := by unfold good; rw [hsk]; dsimp only; rw [hR]; simp [h4]
            have hcO := bO3.cell
            gi_wp2_with (gi_at_builtin; refine wpListIn_append_own _ rfl _ _ 218 rfl w.heap.size 3 i0 (.int .i64 0) 1 8 Tryz.underlying218 hi hz0 hz1 hz2 rfl (by decide) _ _ _ rfl (hr3.alloc _) ⟨w3.heap.size, 0, none⟩ 1 1 [.int .i64 rn] rfl rfl (cell_one_new _ _ _) (by simp [Value.oneCell']) (by unfold maxLen; omega) (by omega) (by have := hwW3.size; simp; omega) ?_; intro v' w5 hown' hgrow _; obtain ⟨g', cap', rfl⟩ := ownsRow_succ hown'; have hA5 : w5.heap[w.heap.size]? = some (.cells #[.int .i64 0, .int .i64 0, .string nul] 31 (0, 0)) := (hgrow.block _ (by simp; have := fm.lt_blk hA3; omega) (blk_not_row hA3 (by decide) hr3)).trans ((Below.heap_alloc _ _ _ (fm.lt_blk hA3)).trans hA3); obtain ⟨hv1, hv2, hr2, hk6, hb6⟩ := bO3.appended (by decide) hr3 hwW3.size (by omega) hown' hgrow; have hc5 := hv1.cell; have hf5 := hv1.frozen)
            exact ⟨(hKo3.trans hk6).from _, hW3.trans (KB.app hr3 hgrow hv1 (by decide) hb6), ⟨⟨⟨fun y hy => (List.mem_append.1 hy).elim (hp y) (fun e => by simp at e; subst e; exact hg), (blk_else (by omega)).trans hA5⟩, _, hv2, by rw [ovN_take hsk]; dsimp only; rw [hR]; simpa using hr2, trivial⟩, hwW3.trans hb6⟩⟩
        | false =>
          have hsk : skp ctT ⟨k, n, s, true⟩ = true := by unfold skp; dsimp only; rw [hk4, hct]; rfl
          have hg : good rd ctT ⟨k, n, s, true⟩ = true := by unfold good; rw [hsk]; rfl
          gi_wp2_with fail
          exact ⟨hKWb.from _, hWWb, ⟨⟨⟨fun y hy => (List.mem_append.1 hy).elim (hp y) (fun e => by simp at e; subst e; exact hg), hAb⟩, v, bOb, by rw [ovN_skip hsk]; exact hrb, trivial⟩, hBb⟩⟩
  case done =>
    rintro D ys W hD rfl ⟨⟨⟨hp, hA1⟩, v, bO1, hr1, -⟩, hB1⟩ hK
    have hcw := Boxed.cell ((hB1.block _ hw.lt).trans hw)
    have hcO := bO1.cell
    have en := hE.out v W
    gi_wp2_with fail
    refine ⟨trivial, ?_⟩
    refine (callsIn_wide.2 (HW.out hp W v hB1 hr1)).mono ?_
    rintro e w1 ⟨rfl, hb1⟩
    have hA3 := (hb1.block _ (fm.lt_blk hA1)).trans hA1
    have hK1 := (hb1.block _ (fm.lt_blk hK)).trans hK
    have hB3 := bnext hB1 hb1 hB1.size
    obtain ⟨z0, z1, z2⟩ := cells3v hA3
    have fA := frz hA3
    clear en hcw hcO
    gi_wp2_with fail
    obtain ⟨w4, hw4, hq4, hk4, he4, hko4⟩ := set3_ex hA3 (.int .i64 r.k) (.int .i64 r.n) (.string r.s)
    rw [hw4]
    have hK4 := hko4.same D _ hK1 rfl
    refine ⟨by simp, .inl ⟨_, _, rfl, run_takeDeferred hK4, ?_⟩⟩
    obtain ⟨d0, d1, d2⟩ := cells3v (w := w4.putObj D (.deferred none)) (blk_own (β := Unit) _ _ _ () w4 _ (some D) hq4 (grownBy_putObj' _ D (.deferred none)) (fun r e => by cases e; exact ⟨_, hK4, rfl⟩))
    refine ⟨VV r.k r.n r.s, ?_, rfl, (hB3.trans (hk4 _ (Nat.le_refl _))).trans (belowK_b (w := w) (Nat.le_refl _) _ D _ _ (by omega) hK4 rfl rfl)⟩
    simp [results, Tryz.f267, go_sem, d0, d1, d2]
  case stop =>
    rintro D c pre W hD hpre ⟨⟨rfl, q, x, rfl, hq, hx, hA1⟩, hB1⟩ hK
    have hrx := hbad.out q x hpre hq hx
    rw [← hrx] at hA1
    gi_wp2_with fail
    refine ⟨by simp, .inl ⟨_, _, rfl, run_takeDeferred hK, ?_⟩⟩
    obtain ⟨d0, d1, d2⟩ := cells3v (w := W.putObj D (.deferred none)) (blk_own (β := Unit) _ _ _ () W _ (some D) hA1 (grownBy_putObj' _ D (.deferred none)) (fun r e => by cases e; exact ⟨_, hK, rfl⟩))
    refine ⟨VV r.k r.n r.s, ?_, rfl, hB1.trans (belowK_b (w := w) (Nat.le_refl _) _ D _ _ (by omega) hK rfl rfl)⟩
    simp [results, Tryz.f267, go_sem, d0, d1, d2]
end Go.Proofs.YtoaejcppfmjhdaaGreatDoor.ov
/- Package eval: which names stand for AND, OR, NOT and IF. Conditions: as each theorem says. -/
namespace Go.Proofs.YtoaejcppfmjhdaaGreatDoor.ov
open Go.RowKit
open ev (VV fin3 cells3v b2I frz noF fin3e ix0 ix1 ix2 ne_nil bstep Taking fnV taking_any ne_fn rounds_step)
theorem counts_any (k : Int) (w : World) : Calls Tryz.prog 240 #[.int .i64 k] w fun e w' => e = .returned (.bool (ctT k)) ∧ Below w.heap.size w w' := by
  unfold ctT
  cases h1 : (k == 1) with
  | true =>
    go_enter Tryz.func240, Tryz.ntmps240
    go_wp2_with fail
    go_ret
    exact ⟨rfl, Below.refl _ _⟩
  | false =>
    cases h3 : (k == 3) with
    | true =>
      go_enter Tryz.func240, Tryz.ntmps240
      go_wp2_with fail
      go_ret
      exact ⟨rfl, Below.refl _ _⟩
    | false =>
      go_enter Tryz.func240, Tryz.ntmps240
      go_wp2_with fail
      go_ret
      exact ⟨rfl, Below.refl _ _⟩
theorem over_make (f1 f2 f3 : Nat) (w : World) : Calls Tryz.prog 236 #[.func (.func f1) #[] #[], .func (.func f2) #[] #[], .func (.func f3) #[] #[]] w fun e w' => e = .returned (.func (.func 267) #[] #[.pointer (some ⟨w.heap.size, 0, none⟩), .pointer (some ⟨w.heap.size + 1, 0, none⟩), .pointer (some ⟨w.heap.size + 1 + 1, 0, none⟩)]) ∧ w' = ((w.alloc (.cells #[.func (.func f1) #[] #[]] 147)).alloc (.cells #[.func (.func f2) #[] #[]] 60)).alloc (.cells #[.func (.func f3) #[] #[]] 178) := by
  go_enter Tryz.func236, Tryz.ntmps236
  go_wp2_with fail
  go_ret
  exact ⟨rfl, rfl⟩
/-- What works on truths, in its box. -/
def Many (K b : Nat) (w : World) : Prop := ∃ pc pr pw, Boxed w b 176 (.func (.func 267) #[] #[.pointer (some ⟨pc, 0, none⟩), .pointer (some ⟨pr, 0, none⟩), .pointer (some ⟨pw, 0, none⟩)]) ∧ Boxed w pc 147 (.func (.func 240) #[] #[]) ∧ Boxed w pr 60 (.func (.func 241) #[] #[]) ∧ Boxed w pw 178 (.func (.func K) #[] #[])
theorem Many.below {K b : Nat} {w w' : World} (h : Many K b w) (hb : Below w.heap.size w w') : Many K b w' := by
  obtain ⟨pc, pr, pw, h1, h2, h3, h4⟩ := h
  exact ⟨pc, pr, pw, (hb.block _ h1.lt).trans h1, (hb.block _ h2.lt).trans h2, (hb.block _ h3.lt).trans h3, (hb.block _ h4.lt).trans h4⟩
theorem boxed_keep {w w' : World} {B b : Nat} {t : TypeId} {v : Value} {cs : Array Value} (h : Boxed w B t v) (hq : w.heap[b]? = some (.cells cs 120 (0, 0))) (ht : t ≠ 120) (he : ∀ i, i ≠ b → w'.heap[i]? = w.heap[i]?) : Boxed w' B t v :=
  (he B (fun e => by have h' : w.heap[B]? = _ := h; rw [e, hq] at h'; injection h' with h'; injection h' with e1 e2; exact ht e2.symm)).trans h
theorem Many.keep {K b c : Nat} {w w' : World} {cs : Array Value} (h : Many K b w) (hq : w.heap[c]? = some (.cells cs 120 (0, 0))) (he : ∀ i, i ≠ c → w'.heap[i]? = w.heap[i]?) : Many K b w' := by
  obtain ⟨pc, pr, pw, h1, h2, h3, h4⟩ := h
  exact ⟨pc, pr, pw, boxed_keep h1 hq (by decide) he, boxed_keep h2 hq (by decide) he, boxed_keep h3 hq (by decide) he, boxed_keep h4 hq (by decide) he⟩
theorem overTruths_any (K : Nat) (w : World) : Calls Tryz.prog 162 #[.func (.func K) #[] #[]] w fun e w' => ∃ pc pr pw, e = .returned (.func (.func 267) #[] #[.pointer (some ⟨pc, 0, none⟩), .pointer (some ⟨pr, 0, none⟩), .pointer (some ⟨pw, 0, none⟩)]) ∧ Boxed w' pc 147 (.func (.func 240) #[] #[]) ∧ Boxed w' pr 60 (.func (.func 241) #[] #[]) ∧ Boxed w' pw 178 (.func (.func K) #[] #[]) ∧ Below w.heap.size w w' := by
  go_enter Tryz.func162, Tryz.ntmps162
  go_wp2_with fail
  refine (over_make 240 241 K _).mono ?_
  rintro e w1 ⟨rfl, rfl⟩
  go_wp2_with fail
  go_ret
  have h1 := ((Boxed.new w 147 (.func (.func 240) #[] #[])).alloc (.cells #[.func (.func 241) #[] #[]] 60)).alloc (.cells #[.func (.func K) #[] #[]] 178)
  have h2 := (Boxed.new (w.alloc (.cells #[.func (.func 240) #[] #[]] 147)) 60 (.func (.func 241) #[] #[])).alloc (.cells #[.func (.func K) #[] #[]] 178)
  have h3 := Boxed.new ((w.alloc (.cells #[.func (.func 240) #[] #[]] 147)).alloc (.cells #[.func (.func 241) #[] #[]] 60)) 178 (.func (.func K) #[] #[])
  simp only [World.size_alloc] at h2 h3
  exact ⟨_, _, _, rfl, h1, h2, h3, (((Below.refl _ _).alloc (Nat.le_refl _) _).alloc (by simp) _).alloc (by simp; omega) _⟩
abbrev fnM (b : Nat) : Value := .agg #[.int .i64 1, .int .i64 200, .func (.func 233) #[] #[.pointer (some ⟨b, 0, none⟩)]]
theorem takingMany_any (G : Nat) (c : Array Value) (w : World) : Calls Tryz.prog 153 #[.func (.func G) #[] c] w fun e w' => e = .returned (fnM w.heap.size) ∧ Boxed w' w.heap.size 176 (.func (.func G) #[] c) ∧ Below w.heap.size w w' := by
  obtain ⟨hA2, -⟩ := ev.two_new w (.cells #[.func (.func G) #[] c] 176) (.cells #[.int .i64 1, .int .i64 200, .func (.func 233) #[] #[.pointer (some ⟨w.heap.size, 0, none⟩)]] 120)
  go_enter Tryz.func153, Tryz.ntmps153
  go_wp2_with fail
  exact bodyPost_ret (v := fnM w.heap.size) (by simp [results, Tryz.results153, go_sem]) rfl ⟨rfl, hA2, ((Below.refl _ _).alloc (Nat.le_refl _) _).alloc (by simp) _⟩
set_option maxHeartbeats 1600000 in
theorem ofMany_and (w : World) : Calls Tryz.prog 113 #[.string ⟨#[65, 78, 68]⟩] w fun e w' => ∃ b, e = .returned (fnM b) ∧ Many 163 b w' ∧ Below w.heap.size w w' := by
  have HQ : Hid (∀ w1, Below (w.alloc (.cells #[.int .i64 0, .int .i64 0, .nilFunc] 120)).heap.size (w.alloc (.cells #[.int .i64 0, .int .i64 0, .nilFunc] 120)) w1 → w1.heap[w.heap.size]? = some (.cells #[.int .i64 0, .int .i64 0, .nilFunc] 120 (0, 0)) ∧ Below w.heap.size w w1) := fun w1 hb =>
    ⟨(hb.block w.heap.size (by simp)).trans (heap_alloc_new w _), bnext ((Below.refl w.heap.size w).alloc (Nat.le_refl _) (.cells #[.int .i64 0, .int .i64 0, .nilFunc] 120)) hb (by simp)⟩
  go_enter Tryz.func113, Tryz.ntmps113
  go_wp2_with fail
  refine (overTruths_any 163 _).mono ?_
  rintro e w1 ⟨pc, pr, pw, rfl, h1, h2, h3, hb1⟩
  have HB1 : Hid (Below (w.alloc (.cells #[.int .i64 0, .int .i64 0, .nilFunc] 120)).heap.size (w.alloc (.cells #[.int .i64 0, .int .i64 0, .nilFunc] 120)) w1) := hb1
  have HX : Hid (Boxed w1 pc 147 (.func (.func 240) #[] #[]) ∧ Boxed w1 pr 60 (.func (.func 241) #[] #[]) ∧ Boxed w1 pw 178 (.func (.func 163) #[] #[])) := ⟨h1, h2, h3⟩
  clear h1 h2 h3 hb1
  go_wp2_with fail
  refine (takingMany_any _ _ _).mono ?_
  rintro e w2 ⟨rfl, h4, hb2⟩
  obtain ⟨g, hg⟩ : ∃ g, w1.heap.size = g := ⟨_, rfl⟩
  rw [hg] at h4 ⊢
  obtain ⟨hq, hb⟩ := HQ.out w2 (bnext HB1.out hb2 HB1.out.size)
  have HM : Hid (Many 163 g w2) := ⟨pc, pr, pw, h4, (hb2.block _ HX.out.1.lt).trans HX.out.1, (hb2.block _ HX.out.2.1.lt).trans HX.out.2.1, (hb2.block _ HX.out.2.2.lt).trans HX.out.2.2⟩
  have HB : Hid (Below w.heap.size w w2) := hb
  have HQ1 : Hid (w2.heap[w.heap.size]? = some (.cells #[.int .i64 0, .int .i64 0, .nilFunc] 120 (0, 0))) := hq
  obtain ⟨c0, c1, c2⟩ := cells3v hq
  have f0 := frz hq
  clear hq hb hb2 h4 HX HB1 HQ hg
  go_wp2_with fail
  refine fin3e HQ1.out (Q := bodyPost _ _ _ _ _) ?_
  clear c0 c1 c2 f0
  intro w3 hq3 hk3 he3
  obtain ⟨d0, d1, d2⟩ := cells3v hq3
  exact bodyPost_ret (v := fnM g) (by simp [results, Tryz.results113, go_sem, d0, d1, d2]) rfl ⟨g, rfl, HM.out.keep HQ1.out he3, HB.out.trans (hk3 _ (Nat.le_refl _))⟩
set_option maxHeartbeats 1600000 in
theorem ofMany_or (w : World) : Calls Tryz.prog 113 #[.string ⟨#[79, 82]⟩] w fun e w' => ∃ b, e = .returned (fnM b) ∧ Many 164 b w' ∧ Below w.heap.size w w' := by
  have HQ : Hid (∀ w1, Below (w.alloc (.cells #[.int .i64 0, .int .i64 0, .nilFunc] 120)).heap.size (w.alloc (.cells #[.int .i64 0, .int .i64 0, .nilFunc] 120)) w1 → w1.heap[w.heap.size]? = some (.cells #[.int .i64 0, .int .i64 0, .nilFunc] 120 (0, 0)) ∧ Below w.heap.size w w1) := fun w1 hb =>
    ⟨(hb.block w.heap.size (by simp)).trans (heap_alloc_new w _), bnext ((Below.refl w.heap.size w).alloc (Nat.le_refl _) (.cells #[.int .i64 0, .int .i64 0, .nilFunc] 120)) hb (by simp)⟩
  go_enter Tryz.func113, Tryz.ntmps113
  go_wp2_with fail
  refine (overTruths_any 164 _).mono ?_
  rintro e w1 ⟨pc, pr, pw, rfl, h1, h2, h3, hb1⟩
  have HB1 : Hid (Below (w.alloc (.cells #[.int .i64 0, .int .i64 0, .nilFunc] 120)).heap.size (w.alloc (.cells #[.int .i64 0, .int .i64 0, .nilFunc] 120)) w1) := hb1
  have HX : Hid (Boxed w1 pc 147 (.func (.func 240) #[] #[]) ∧ Boxed w1 pr 60 (.func (.func 241) #[] #[]) ∧ Boxed w1 pw 178 (.func (.func 164) #[] #[])) := ⟨h1, h2, h3⟩
  clear h1 h2 h3 hb1
  go_wp2_with fail
  refine (takingMany_any _ _ _).mono ?_
  rintro e w2 ⟨rfl, h4, hb2⟩
  obtain ⟨g, hg⟩ : ∃ g, w1.heap.size = g := ⟨_, rfl⟩
  rw [hg] at h4 ⊢
  obtain ⟨hq, hb⟩ := HQ.out w2 (bnext HB1.out hb2 HB1.out.size)
  have HM : Hid (Many 164 g w2) := ⟨pc, pr, pw, h4, (hb2.block _ HX.out.1.lt).trans HX.out.1, (hb2.block _ HX.out.2.1.lt).trans HX.out.2.1, (hb2.block _ HX.out.2.2.lt).trans HX.out.2.2⟩
  have HB : Hid (Below w.heap.size w w2) := hb
  have HQ1 : Hid (w2.heap[w.heap.size]? = some (.cells #[.int .i64 0, .int .i64 0, .nilFunc] 120 (0, 0))) := hq
  obtain ⟨c0, c1, c2⟩ := cells3v hq
  have f0 := frz hq
  clear hq hb hb2 h4 HX HB1 HQ hg
  go_wp2_with fail
  refine fin3e HQ1.out (Q := bodyPost _ _ _ _ _) ?_
  clear c0 c1 c2 f0
  intro w3 hq3 hk3 he3
  obtain ⟨d0, d1, d2⟩ := cells3v hq3
  exact bodyPost_ret (v := fnM g) (by simp [results, Tryz.results113, go_sem, d0, d1, d2]) rfl ⟨g, rfl, HM.out.keep HQ1.out he3, HB.out.trans (hk3 _ (Nat.le_refl _))⟩
theorem eq_fn0 (K : Nat) (c : Array Value) (W : World) : (Op.equal 118 (.func (.func K) #[] c) Value.nilFunc).run Tryz.prog W = .ok false W := by
  unfold Op.equal
  rw [show Op.maxDepth = Op.maxDepth - 1 + 1 from rfl]
  unfold Op.equalIn
  simp [go_sem]
theorem ne_fnK (K : Nat) (c : Array Value) (W : World) : (binOp BinOp.neq 118 (.func (.func K) #[] c) Value.nilFunc).run Tryz.prog W = .ok (.bool true) W := by
  simp [binOp, go_sem, eq_fn0 K c W]
theorem eq_fnK (K : Nat) (c : Array Value) (W : World) : (binOp BinOp.eql 118 (.func (.func K) #[] c) Value.nilFunc).run Tryz.prog W = .ok (.bool false) W := by
  simp [binOp, go_sem, eq_fn0 K c W]
theorem ofMany_if (w : World) :
    Calls Tryz.prog 113 #[.string ⟨#[73, 70]⟩] w fun e w' => e = .returned noF ∧ Below w.heap.size w w' := by
  go_enter Tryz.func113, Tryz.ntmps113
  go_wp2_with fail
  exact bodyPost_ret (v := noF) (by simp [results, Tryz.results113, go_sem]) rfl ⟨rfl, (Below.refl _ _).alloc (Nat.le_refl _) _⟩
theorem ofMany_not (w : World) :
    Calls Tryz.prog 113 #[.string ⟨#[78, 79, 84]⟩] w fun e w' => e = .returned noF ∧ Below w.heap.size w w' := by
  go_enter Tryz.func113, Tryz.ntmps113
  go_wp2_with fail
  exact bodyPost_ret (v := noF) (by simp [results, Tryz.results113, go_sem]) rfl ⟨rfl, (Below.refl _ _).alloc (Nat.le_refl _) _⟩
theorem ofChoice_not (w : World) :
    Calls Tryz.prog 114 #[.string ⟨#[78, 79, 84]⟩] w fun e w' => e = .returned noF ∧ Below w.heap.size w w' := by
  go_enter Tryz.func114, Tryz.ntmps114
  go_wp2_with fail
  exact bodyPost_ret (v := noF) (by simp [results, Tryz.results114, go_sem]) rfl ⟨rfl, (Below.refl _ _).alloc (Nat.le_refl _) _⟩
abbrev fnI : Value := .agg #[.int .i64 2, .int .i64 3, .func (.func 166) #[] #[]]
theorem ofChoice_if (w : World) : Calls Tryz.prog 114 #[.string ⟨#[73, 70]⟩] w fun e w' => e = .returned fnI ∧ Below w.heap.size w w' := by
  go_enter Tryz.func114, Tryz.ntmps114
  go_wp2_with fail
  exact bodyPost_ret (v := fnI) (by simp [results, Tryz.results114, go_sem]) rfl ⟨rfl, (Below.refl _ _).alloc (Nat.le_refl _) _⟩
set_option maxHeartbeats 800000 in
theorem ofNumbers_not (w : World) :
    Calls Tryz.prog 115 #[.string ⟨#[78, 79, 84]⟩] w fun e w' => ∃ p q, e = .returned (fnV 1 p q) ∧ Taking w' ⟨#[118]⟩ 175 p q ∧ Below w.heap.size w w' := by
  have HT : Hid (∀ l wx, Calls Tryz.prog 174 #[.string l, .func (.func 175) #[] #[]] wx fun e w' => e = .returned (fnV l.size wx.heap.size (wx.heap.size + 1)) ∧ Taking w' l 175 wx.heap.size (wx.heap.size + 1) ∧ Below wx.heap.size wx w') := fun l wx => taking_any l 175 wx
  have HQ : Hid (∀ w1, Below (w.alloc (.cells #[.int .i64 0, .int .i64 0, .nilFunc] 120)).heap.size (w.alloc (.cells #[.int .i64 0, .int .i64 0, .nilFunc] 120)) w1 → w1.heap[w.heap.size]? = some (.cells #[.int .i64 0, .int .i64 0, .nilFunc] 120 (0, 0)) ∧ Below w.heap.size w w1) := fun w1 hb =>
    ⟨(hb.block w.heap.size (by simp)).trans (heap_alloc_new w _), bnext ((Below.refl w.heap.size w).alloc (Nat.le_refl _) (.cells #[.int .i64 0, .int .i64 0, .nilFunc] 120)) hb (by simp)⟩
  go_enter Tryz.func115, Tryz.ntmps115
  go_wp2_with fail
  refine (HT.out _ _).mono ?_
  rintro e w1 ⟨rfl, ht, hb1⟩
  have HY : Hid (∃ p q, (w.alloc (.cells #[.int .i64 0, .int .i64 0, .nilFunc] 120)).heap.size = p ∧ p + 1 = q) := ⟨_, _, rfl, rfl⟩
  obtain ⟨p, q, hp, hq⟩ := HY.out
  clear HY
  obtain ⟨hq1, hb2⟩ := HQ.out w1 hb1
  rw [hp, hq] at ht
  rw [hp, hq]
  have hpw : w.heap.size < p := by rw [← hp]; simp
  have hqw : w.heap.size < q := by omega
  have HTk : Hid (Taking w1 ⟨#[118]⟩ 175 p q) := ht
  have HB : Hid (Below w.heap.size w w1) := hb2
  obtain ⟨c0, c1, c2⟩ := cells3v hq1
  have f0 := frz hq1
  clear hb2 hb1 HQ HT ht hp hq
  have HQ1 : Hid (w1.heap[w.heap.size]? = some (.cells #[.int .i64 0, .int .i64 0, .nilFunc] 120 (0, 0))) := hq1
  clear hq1
  go_wp2_with fail
  refine fin3e HQ1.out (Q := bodyPost _ _ _ _ _) ?_
  clear c0 c1 c2 f0
  intro w2 hq2 hk2 he2
  obtain ⟨d0, d1, d2⟩ := cells3v hq2
  exact bodyPost_ret (v := fnV 1 p q) (by simp [results, Tryz.results115, go_sem, d0, d1, d2]) rfl ⟨p, q, rfl, HTk.out.keep he2 (Nat.ne_of_gt hpw) (Nat.ne_of_gt hqw), HB.out.trans (hk2 _ (Nat.le_refl _))⟩
/-- A letter's function, in its boxes. -/
theorem Taking.keep1 {L : ByteArray} {K p q c : Nat} {w w' : World} {cs : Array Value} (h : Taking w L K p q) (hq : w.heap[c]? = some (.cells cs 120 (0, 0))) (he : ∀ i, i ≠ c → w'.heap[i]? = w.heap[i]?) : Taking w' L K p q :=
  ev.Taking.keep h he (fun e => by have := h.letters; rw [e, hq] at this; simp at this) (fun e => by have := h.work; rw [e, hq] at this; simp at this)
set_option maxRecDepth 8000 in
theorem functionOf_and (w : World) :
    Calls Tryz.prog 83 #[.string ⟨#[65, 78, 68]⟩] w fun e w' => ∃ b, e = .returned (fnM b) ∧ Many 163 b w' ∧ Below w.heap.size w w' := by
  have H1 : Hid (∀ wx, Calls Tryz.prog 113 #[.string ⟨#[65, 78, 68]⟩] wx fun e w' => ∃ b, e = .returned (fnM b) ∧ Many 163 b w' ∧ Below wx.heap.size wx w') := ofMany_and
  go_enter Tryz.func83, Tryz.ntmps83
  go_wp2_with fail
  refine wp_loop_rounds 1 ?_
  obtain ⟨w0, hW⟩ : ∃ W, W = (w.alloc (.cells #[.int .i64 0, .int .i64 0, .nilFunc] 120)).alloc (.cells #[.func (.func 113) #[] #[], .func (.func 114) #[] #[], .func (.func 115) #[] #[], .func (.func 116) #[] #[], .func (.func 117) #[] #[]] 150) := ⟨_, rfl⟩
  rw [← hW]
  have HW : Hid (w0 = (w.alloc (.cells #[.int .i64 0, .int .i64 0, .nilFunc] 120)).alloc (.cells #[.func (.func 113) #[] #[], .func (.func 114) #[] #[], .func (.func 115) #[] #[], .func (.func 116) #[] #[], .func (.func 117) #[] #[]] 150)) := hW
  clear hW
  have B0 : Hid (Below w0.heap.size w0 w0) := Below.refl _ _
  refine rounds_step ?_
  intro K HK
  have i0 := ix0 w0
  go_wp2_with fail
  refine (H1.out _).mono ?_
  rintro e y3 ⟨b, rfl, ht, b4⟩
  clear i0 HK
  have C4 : Below w0.heap.size w0 y3 := bnext B0.out b4 B0.out.size
  have hq1 : y3.heap[w.heap.size]? = some (.cells #[.int .i64 0, .int .i64 0, .nilFunc] 120 (0, 0)) := by
    rw [C4.block _ (by rw [HW.out]; simp; omega), HW.out]
    exact (((Below.refl (w.heap.size + 1) _).alloc (by simp) _).block w.heap.size (by omega)).trans (heap_alloc_new w _)
  have B5 : Hid (Below w.heap.size w y3) := bnext (show Below w.heap.size w w0 by rw [HW.out]; exact ((Below.refl _ _).alloc (Nat.le_refl _) _).alloc (by simp) _) C4 (by rw [HW.out]; simp; omega)
  have hlt : w.heap.size < y3.heap.size := fm.lt_blk hq1
  have HTk : Hid (Many 163 b y3) := ht
  clear C4 b4 B0 HW ht
  obtain ⟨y4, h4⟩ : ∃ W, W = y3.alloc (.cells #[.int .i64 1, .int .i64 200, .func (.func 233) #[] #[.pointer (some ⟨b, 0, none⟩)]] 120) := ⟨_, rfl⟩
  have n3 := ne_fnK 233 #[.pointer (some ⟨b, 0, none⟩)] y4
  rw [h4] at n3
  have hq4 : y4.heap[w.heap.size]? = some (.cells #[.int .i64 0, .int .i64 0, .nilFunc] 120 (0, 0)) := by
    rw [h4]; exact (((Below.refl y3.heap.size y3).alloc (Nat.le_refl _) _).block _ hlt).trans hq1
  have HQ1 : Hid (y4.heap[w.heap.size]? = some (.cells #[.int .i64 0, .int .i64 0, .nilFunc] 120 (0, 0))) := hq4
  have B6 : Hid (Below w.heap.size w y4) := by rw [h4]; exact B5.out.alloc (Nat.le_of_lt hlt) _
  have HT4 : Hid (Many 163 b y4) := by rw [h4]; exact HTk.out.below ((Below.refl _ _).alloc (Nat.le_refl _) _)
  obtain ⟨c0, c1, c2⟩ := cells3v hq4
  have f0 := frz hq4
  have H44 : Hid (y3.alloc (.cells #[.int .i64 1, .int .i64 200, .func (.func 233) #[] #[.pointer (some ⟨b, 0, none⟩)]] 120) = y4) := h4.symm
  rw [h4] at c0 c1 c2 f0
  clear hq4 hq1 hlt h4
  go_wp2_with fail
  rw [H44.out] at *
  refine fin3e HQ1.out (Q := bodyPost _ _ _ _ _) ?_
  clear c0 c1 c2 f0
  intro w2 hq2 hk2 he2
  obtain ⟨d0, d1, d2⟩ := cells3v hq2
  exact bodyPost_ret (v := fnM b) (by simp [results, Tryz.results83, go_sem, d0, d1, d2]) rfl ⟨b, rfl, HT4.out.keep HQ1.out he2, B6.out.trans (hk2 _ (Nat.le_refl _))⟩
set_option maxRecDepth 8000 in
theorem functionOf_or (w : World) :
    Calls Tryz.prog 83 #[.string ⟨#[79, 82]⟩] w fun e w' => ∃ b, e = .returned (fnM b) ∧ Many 164 b w' ∧ Below w.heap.size w w' := by
  have H1 : Hid (∀ wx, Calls Tryz.prog 113 #[.string ⟨#[79, 82]⟩] wx fun e w' => ∃ b, e = .returned (fnM b) ∧ Many 164 b w' ∧ Below wx.heap.size wx w') := ofMany_or
  go_enter Tryz.func83, Tryz.ntmps83
  go_wp2_with fail
  refine wp_loop_rounds 1 ?_
  obtain ⟨w0, hW⟩ : ∃ W, W = (w.alloc (.cells #[.int .i64 0, .int .i64 0, .nilFunc] 120)).alloc (.cells #[.func (.func 113) #[] #[], .func (.func 114) #[] #[], .func (.func 115) #[] #[], .func (.func 116) #[] #[], .func (.func 117) #[] #[]] 150) := ⟨_, rfl⟩
  rw [← hW]
  have HW : Hid (w0 = (w.alloc (.cells #[.int .i64 0, .int .i64 0, .nilFunc] 120)).alloc (.cells #[.func (.func 113) #[] #[], .func (.func 114) #[] #[], .func (.func 115) #[] #[], .func (.func 116) #[] #[], .func (.func 117) #[] #[]] 150)) := hW
  clear hW
  have B0 : Hid (Below w0.heap.size w0 w0) := Below.refl _ _
  refine rounds_step ?_
  intro K HK
  have i0 := ix0 w0
  go_wp2_with fail
  refine (H1.out _).mono ?_
  rintro e y3 ⟨b, rfl, ht, b4⟩
  clear i0 HK
  have C4 : Below w0.heap.size w0 y3 := bnext B0.out b4 B0.out.size
  have hq1 : y3.heap[w.heap.size]? = some (.cells #[.int .i64 0, .int .i64 0, .nilFunc] 120 (0, 0)) := by
    rw [C4.block _ (by rw [HW.out]; simp; omega), HW.out]
    exact (((Below.refl (w.heap.size + 1) _).alloc (by simp) _).block w.heap.size (by omega)).trans (heap_alloc_new w _)
  have B5 : Hid (Below w.heap.size w y3) := bnext (show Below w.heap.size w w0 by rw [HW.out]; exact ((Below.refl _ _).alloc (Nat.le_refl _) _).alloc (by simp) _) C4 (by rw [HW.out]; simp; omega)
  have hlt : w.heap.size < y3.heap.size := fm.lt_blk hq1
  have HTk : Hid (Many 164 b y3) := ht
  clear C4 b4 B0 HW ht
  obtain ⟨y4, h4⟩ : ∃ W, W = y3.alloc (.cells #[.int .i64 1, .int .i64 200, .func (.func 233) #[] #[.pointer (some ⟨b, 0, none⟩)]] 120) := ⟨_, rfl⟩
  have n3 := ne_fnK 233 #[.pointer (some ⟨b, 0, none⟩)] y4
  rw [h4] at n3
  have hq4 : y4.heap[w.heap.size]? = some (.cells #[.int .i64 0, .int .i64 0, .nilFunc] 120 (0, 0)) := by
    rw [h4]; exact (((Below.refl y3.heap.size y3).alloc (Nat.le_refl _) _).block _ hlt).trans hq1
  have HQ1 : Hid (y4.heap[w.heap.size]? = some (.cells #[.int .i64 0, .int .i64 0, .nilFunc] 120 (0, 0))) := hq4
  have B6 : Hid (Below w.heap.size w y4) := by rw [h4]; exact B5.out.alloc (Nat.le_of_lt hlt) _
  have HT4 : Hid (Many 164 b y4) := by rw [h4]; exact HTk.out.below ((Below.refl _ _).alloc (Nat.le_refl _) _)
  obtain ⟨c0, c1, c2⟩ := cells3v hq4
  have f0 := frz hq4
  have H44 : Hid (y3.alloc (.cells #[.int .i64 1, .int .i64 200, .func (.func 233) #[] #[.pointer (some ⟨b, 0, none⟩)]] 120) = y4) := h4.symm
  rw [h4] at c0 c1 c2 f0
  clear hq4 hq1 hlt h4
  go_wp2_with fail
  rw [H44.out] at *
  refine fin3e HQ1.out (Q := bodyPost _ _ _ _ _) ?_
  clear c0 c1 c2 f0
  intro w2 hq2 hk2 he2
  obtain ⟨d0, d1, d2⟩ := cells3v hq2
  exact bodyPost_ret (v := fnM b) (by simp [results, Tryz.results83, go_sem, d0, d1, d2]) rfl ⟨b, rfl, HT4.out.keep HQ1.out he2, B6.out.trans (hk2 _ (Nat.le_refl _))⟩
set_option maxRecDepth 8000 in
theorem functionOf_if (w : World) :
    Calls Tryz.prog 83 #[.string ⟨#[73, 70]⟩] w fun e w' => e = .returned (fnI) ∧ Below w.heap.size w w' := by
  have H1 : Hid (∀ wx, Calls Tryz.prog 113 #[.string ⟨#[73, 70]⟩] wx fun e w' => e = .returned noF ∧ Below wx.heap.size wx w') := ofMany_if
  have H2 : Hid (∀ wx, Calls Tryz.prog 114 #[.string ⟨#[73, 70]⟩] wx fun e w' => e = .returned (fnI) ∧ Below wx.heap.size wx w') := ofChoice_if
  go_enter Tryz.func83, Tryz.ntmps83
  go_wp2_with fail
  refine wp_loop_rounds 2 ?_
  obtain ⟨w0, hW⟩ : ∃ W, W = (w.alloc (.cells #[.int .i64 0, .int .i64 0, .nilFunc] 120)).alloc (.cells #[.func (.func 113) #[] #[], .func (.func 114) #[] #[], .func (.func 115) #[] #[], .func (.func 116) #[] #[], .func (.func 117) #[] #[]] 150) := ⟨_, rfl⟩
  rw [← hW]
  have HW : Hid (w0 = (w.alloc (.cells #[.int .i64 0, .int .i64 0, .nilFunc] 120)).alloc (.cells #[.func (.func 113) #[] #[], .func (.func 114) #[] #[], .func (.func 115) #[] #[], .func (.func 116) #[] #[], .func (.func 117) #[] #[]] 150)) := hW
  clear hW
  have B0 : Hid (Below w0.heap.size w0 w0) := Below.refl _ _
  refine rounds_step ?_
  intro K0 HK0
  have i0 := ix0 w0
  go_wp2_with fail
  refine (H1.out _).mono ?_
  rintro e v0 ⟨rfl, b0⟩
  clear i0
  have n0 := ne_nil (v0.alloc (.cells #[.int .i64 0, .int .i64 0, .nilFunc] 120))
  have B1 : Hid (Below w0.heap.size w0 (v0.alloc (.cells #[.int .i64 0, .int .i64 0, .nilFunc] 120))) := bstep B0.out b0 B0.out.size
  clear b0
  go_wp2_with fail
  refine HK0.out _ _ ?_
  clear HK0 K0 n0 B0
  obtain ⟨w1, h1⟩ : ∃ W, W = v0.alloc (.cells #[.int .i64 0, .int .i64 0, .nilFunc] 120) := ⟨_, rfl⟩
  rw [← h1] at B1 ⊢
  clear h1
  refine rounds_step ?_
  intro K HK
  have i1 := ix1 w1
  go_wp2_with fail
  refine (H2.out _).mono ?_
  rintro e y3 ⟨rfl, b4⟩
  clear i1 HK
  have C4 : Below w0.heap.size w0 y3 := bnext B1.out b4 B1.out.size
  have hq1 : y3.heap[w.heap.size]? = some (.cells #[.int .i64 0, .int .i64 0, .nilFunc] 120 (0, 0)) := by
    rw [C4.block _ (by rw [HW.out]; simp; omega), HW.out]
    exact (((Below.refl (w.heap.size + 1) _).alloc (by simp) _).block w.heap.size (by omega)).trans (heap_alloc_new w _)
  have B5 : Hid (Below w.heap.size w y3) := bnext (show Below w.heap.size w w0 by rw [HW.out]; exact ((Below.refl _ _).alloc (Nat.le_refl _) _).alloc (by simp) _) C4 (by rw [HW.out]; simp; omega)
  have hlt : w.heap.size < y3.heap.size := fm.lt_blk hq1
  clear C4 b4 B1 HW
  obtain ⟨y4, h4⟩ : ∃ W, W = y3.alloc (.cells #[.int .i64 2, .int .i64 3, .func (.func 166) #[] #[]] 120) := ⟨_, rfl⟩
  have n3 := ne_fnK 166 #[] y4
  rw [h4] at n3
  have hq4 : y4.heap[w.heap.size]? = some (.cells #[.int .i64 0, .int .i64 0, .nilFunc] 120 (0, 0)) := by
    rw [h4]; exact (((Below.refl y3.heap.size y3).alloc (Nat.le_refl _) _).block _ hlt).trans hq1
  have HQ1 : Hid (y4.heap[w.heap.size]? = some (.cells #[.int .i64 0, .int .i64 0, .nilFunc] 120 (0, 0))) := hq4
  have B6 : Hid (Below w.heap.size w y4) := by rw [h4]; exact B5.out.alloc (Nat.le_of_lt hlt) _
  obtain ⟨c0, c1, c2⟩ := cells3v hq4
  have f0 := frz hq4
  have H44 : Hid (y3.alloc (.cells #[.int .i64 2, .int .i64 3, .func (.func 166) #[] #[]] 120) = y4) := h4.symm
  rw [h4] at c0 c1 c2 f0
  clear hq4 hq1 hlt h4
  go_wp2_with fail
  rw [H44.out] at *
  refine fin3e HQ1.out (Q := bodyPost _ _ _ _ _) ?_
  clear c0 c1 c2 f0
  intro w2 hq2 hk2 he2
  obtain ⟨d0, d1, d2⟩ := cells3v hq2
  exact bodyPost_ret (v := fnI) (by simp [results, Tryz.results83, go_sem, d0, d1, d2]) rfl ⟨rfl, B6.out.trans (hk2 _ (Nat.le_refl _))⟩
set_option maxRecDepth 8000 in
theorem functionOf_not (w : World) :
    Calls Tryz.prog 83 #[.string ⟨#[78, 79, 84]⟩] w fun e w' => ∃ p q, e = .returned (fnV 1 p q) ∧ Taking w' ⟨#[118]⟩ 175 p q ∧ Below w.heap.size w w' := by
  have H1 : Hid (∀ wx, Calls Tryz.prog 113 #[.string ⟨#[78, 79, 84]⟩] wx fun e w' => e = .returned noF ∧ Below wx.heap.size wx w') := ofMany_not
  have H2 : Hid (∀ wx, Calls Tryz.prog 114 #[.string ⟨#[78, 79, 84]⟩] wx fun e w' => e = .returned noF ∧ Below wx.heap.size wx w') := ofChoice_not
  have H3 : Hid (∀ wx, Calls Tryz.prog 115 #[.string ⟨#[78, 79, 84]⟩] wx fun e w' => ∃ p q, e = .returned (fnV 1 p q) ∧ Taking w' ⟨#[118]⟩ 175 p q ∧ Below wx.heap.size wx w') := ofNumbers_not
  go_enter Tryz.func83, Tryz.ntmps83
  go_wp2_with fail
  refine wp_loop_rounds 3 ?_
  obtain ⟨w0, hW⟩ : ∃ W, W = (w.alloc (.cells #[.int .i64 0, .int .i64 0, .nilFunc] 120)).alloc (.cells #[.func (.func 113) #[] #[], .func (.func 114) #[] #[], .func (.func 115) #[] #[], .func (.func 116) #[] #[], .func (.func 117) #[] #[]] 150) := ⟨_, rfl⟩
  rw [← hW]
  have HW : Hid (w0 = (w.alloc (.cells #[.int .i64 0, .int .i64 0, .nilFunc] 120)).alloc (.cells #[.func (.func 113) #[] #[], .func (.func 114) #[] #[], .func (.func 115) #[] #[], .func (.func 116) #[] #[], .func (.func 117) #[] #[]] 150)) := hW
  clear hW
  have B0 : Hid (Below w0.heap.size w0 w0) := Below.refl _ _
  refine rounds_step ?_
  intro K0 HK0
  have i0 := ix0 w0
  go_wp2_with fail
  refine (H1.out _).mono ?_
  rintro e v0 ⟨rfl, b0⟩
  clear i0
  have n0 := ne_nil (v0.alloc (.cells #[.int .i64 0, .int .i64 0, .nilFunc] 120))
  have B1 : Hid (Below w0.heap.size w0 (v0.alloc (.cells #[.int .i64 0, .int .i64 0, .nilFunc] 120))) := bstep B0.out b0 B0.out.size
  clear b0
  go_wp2_with fail
  refine HK0.out _ _ ?_
  clear HK0 K0 n0 B0
  obtain ⟨w1, h1⟩ : ∃ W, W = v0.alloc (.cells #[.int .i64 0, .int .i64 0, .nilFunc] 120) := ⟨_, rfl⟩
  rw [← h1] at B1 ⊢
  clear h1
  refine rounds_step ?_
  intro K1 HK1
  have i1 := ix1 w1
  go_wp2_with fail
  refine (H2.out _).mono ?_
  rintro e v1 ⟨rfl, b1⟩
  clear i1
  have n1 := ne_nil (v1.alloc (.cells #[.int .i64 0, .int .i64 0, .nilFunc] 120))
  have B2 : Hid (Below w0.heap.size w0 (v1.alloc (.cells #[.int .i64 0, .int .i64 0, .nilFunc] 120))) := bstep B1.out b1 B1.out.size
  clear b1
  go_wp2_with fail
  refine HK1.out _ _ ?_
  clear HK1 K1 n1 B1
  obtain ⟨w2, h2⟩ : ∃ W, W = v1.alloc (.cells #[.int .i64 0, .int .i64 0, .nilFunc] 120) := ⟨_, rfl⟩
  rw [← h2] at B2 ⊢
  clear h2
  refine rounds_step ?_
  intro K HK
  have i2 := ix2 w2
  go_wp2_with fail
  refine (H3.out _).mono ?_
  rintro e y3 ⟨p, q, rfl, ht, b4⟩
  clear i2 HK
  have C4 : Below w0.heap.size w0 y3 := bnext B2.out b4 B2.out.size
  have hq1 : y3.heap[w.heap.size]? = some (.cells #[.int .i64 0, .int .i64 0, .nilFunc] 120 (0, 0)) := by
    rw [C4.block _ (by rw [HW.out]; simp; omega), HW.out]
    exact (((Below.refl (w.heap.size + 1) _).alloc (by simp) _).block w.heap.size (by omega)).trans (heap_alloc_new w _)
  have B5 : Hid (Below w.heap.size w y3) := bnext (show Below w.heap.size w w0 by rw [HW.out]; exact ((Below.refl _ _).alloc (Nat.le_refl _) _).alloc (by simp) _) C4 (by rw [HW.out]; simp; omega)
  have hlt : w.heap.size < y3.heap.size := fm.lt_blk hq1
  have HTk : Hid (Taking y3 ⟨#[118]⟩ 175 p q) := ht
  clear C4 b4 B2 HW ht
  obtain ⟨y4, h4⟩ : ∃ W, W = y3.alloc (.cells #[.int .i64 1, .int .i64 1, .func (.func 245) #[] #[.pointer (some ⟨p, 0, none⟩), .pointer (some ⟨q, 0, none⟩)]] 120) := ⟨_, rfl⟩
  have n3 := ne_fn p q y4
  rw [h4] at n3
  have hq4 : y4.heap[w.heap.size]? = some (.cells #[.int .i64 0, .int .i64 0, .nilFunc] 120 (0, 0)) := by
    rw [h4]; exact (((Below.refl y3.heap.size y3).alloc (Nat.le_refl _) _).block _ hlt).trans hq1
  have HQ1 : Hid (y4.heap[w.heap.size]? = some (.cells #[.int .i64 0, .int .i64 0, .nilFunc] 120 (0, 0))) := hq4
  have B6 : Hid (Below w.heap.size w y4) := by rw [h4]; exact B5.out.alloc (Nat.le_of_lt hlt) _
  have HT4 : Hid (Taking y4 ⟨#[118]⟩ 175 p q) := by rw [h4]; exact HTk.out.below ((Below.refl _ _).alloc (Nat.le_refl _) _)
  obtain ⟨c0, c1, c2⟩ := cells3v hq4
  have f0 := frz hq4
  have H44 : Hid (y3.alloc (.cells #[.int .i64 1, .int .i64 1, .func (.func 245) #[] #[.pointer (some ⟨p, 0, none⟩), .pointer (some ⟨q, 0, none⟩)]] 120) = y4) := h4.symm
  rw [h4] at c0 c1 c2 f0
  clear hq4 hq1 hlt h4
  go_wp2_with fail
  rw [H44.out] at *
  refine fin3e HQ1.out (Q := bodyPost _ _ _ _ _) ?_
  clear c0 c1 c2 f0
  intro w2 hq2 hk2 he2
  obtain ⟨d0, d1, d2⟩ := cells3v hq2
  exact bodyPost_ret (v := fnV 1 p q) (by simp [results, Tryz.results83, go_sem, d0, d1, d2]) rfl ⟨p, q, rfl, Taking.keep1 HT4.out HQ1.out he2, B6.out.trans (hk2 _ (Nat.le_refl _))⟩
end Go.Proofs.YtoaejcppfmjhdaaGreatDoor.ov
/- Package eval: calls of AND, OR, IF and NOT; the argument of NOT. Conditions: as each theorem says. -/
namespace Go.Proofs.YtoaejcppfmjhdaaGreatDoor.ov
open Go.RowKit
open ev (VV fin3 cells3v b2I frz fin3e Taking fnV AB AR csSet isBad_any make_args ab_keep Z10)
set_option maxRecDepth 100000 in
set_option maxHeartbeats 1600000 in
theorem call_many (mb : Option Nat) (nm : ByteArray) (pk : Option Addr) (q : Nat) (hq1 : (1 : Int) ≤ (q : Int)) (hq2 : (q : Int) ≤ 200) (K : Nat) (c : Nat) (r : V3) (w : World)
    (HF : Hid (∀ wx, Calls Tryz.prog 83 #[.string nm] wx fun e w' => ∃ b, e = .returned (fnM b) ∧ Many K b w' ∧ Below wx.heap.size wx w'))
    (HX : Hid (∀ (b : Nat) wx, Many K b wx → Below w.heap.size w wx → Calls Tryz.prog 233 #[.agg #[.map mb, .slice pk q c], .pointer (some ⟨b, 0, none⟩)] wx fun e w' => e = .returned (VV r.k r.n r.s) ∧ Below wx.heap.size wx w')) :
    Calls Tryz.prog 50 #[.map mb, fm.NV 9 0 nm .z .z (.slice pk q c)] w fun e w' => e = .returned (VV r.k r.n r.s) ∧ Below w.heap.size w w' := by
  obtain ⟨W, hW⟩ : ∃ W, W = (w.alloc (.cells (fm.N12 9 0 nm .z .z (.slice pk q c)) 28)).alloc (.cells #[.int .i64 0, .int .i64 0, .string nul] 31) := ⟨_, rfl⟩
  have hbW : Below w.heap.size w W := by rw [hW]; exact ((Below.refl _ _).alloc (Nat.le_refl _) _).alloc (by simp) _
  obtain ⟨hA, hR⟩ := ev.two_new w (.cells (fm.N12 9 0 nm .z .z (.slice pk q c)) 28) (.cells #[.int .i64 0, .int .i64 0, .string nul] 31)
  rw [← hW] at hA hR
  have HN : Hid (W.heap[w.heap.size]? = some (.cells (fm.N12 9 0 nm .z .z (.slice pk q c)) 28 (0, 0))) := hA
  have HR : Hid (W.heap[w.heap.size + 1]? = some (.cells #[.int .i64 0, .int .i64 0, .string nul] 31 (0, 0))) := hR
  have HBW : Hid (Below w.heap.size w W) := hbW
  obtain ⟨⟨a0, a1, a2, a3, a4, a5, a6, a7, a8, a9, a10, a11⟩, -⟩ := fm.cells12 hA
  have HWW : Hid ((w.alloc (.cells (fm.N12 9 0 nm .z .z (.slice pk q c)) 28)).alloc (.cells #[.int .i64 0, .int .i64 0, .string nul] 31) = W) := hW.symm
  rw [hW] at a0 a1 a2 a3 a4 a5 a6 a7 a8 a9 a10 a11
  clear hA hR hW hbW
  go_enter Tryz.func50, Tryz.ntmps50
  go_wp2_with fail
  rw [HWW.out] at *
  refine (HF.out _).mono ?_
  clear a0 a1 a2 a3 a4 a5 a6 a7 a8 a9 a10 a11
  rintro e w1 ⟨b, rfl, ht, hb1⟩
  obtain ⟨V1, hV⟩ : ∃ V1, V1 = w1.alloc (.cells #[.int .i64 1, .int .i64 200, .func (.func 233) #[] #[.pointer (some ⟨b, 0, none⟩)]] 120) := ⟨_, rfl⟩
  have hbv : Below w1.heap.size w1 V1 := by rw [hV]; exact (Below.refl _ _).alloc (Nat.le_refl _) _
  have hbW1 : Below W.heap.size W V1 := bnext hb1 hbv hb1.size
  have hN1 : V1.heap[w.heap.size]? = some (.cells (fm.N12 9 0 nm .z .z (.slice pk q c)) 28 (0, 0)) := (hbW1.block _ (fm.lt_blk HN.out)).trans HN.out
  have HR1 : Hid (V1.heap[w.heap.size + 1]? = some (.cells #[.int .i64 0, .int .i64 0, .string nul] 31 (0, 0))) := (hbW1.block _ (fm.lt_blk HR.out)).trans HR.out
  have HB1 : Hid (Below w.heap.size w V1) := bnext HBW.out hbW1 HBW.out.size
  have HY : Hid (Calls Tryz.prog 233 #[.agg #[.map mb, .slice pk q c], .pointer (some ⟨b, 0, none⟩)] V1 fun e w' => e = .returned (VV r.k r.n r.s) ∧ Below V1.heap.size V1 w') := HX.out b V1 (ht.below hbv) HB1.out
  have hV0 : V1.heap[w1.heap.size]? = some (.cells #[.int .i64 1, .int .i64 200, .func (.func 233) #[] #[.pointer (some ⟨b, 0, none⟩)]] 120 (0, 0)) := by rw [hV]; exact heap_alloc_new _ _
  obtain ⟨v0, v1, v2⟩ := cells3v hV0
  have ef := eq_fnK 233 #[.pointer (some ⟨b, 0, none⟩)] V1
  obtain ⟨⟨a0, a1, a2, a3, a4, a5, a6, a7, a8, a9, a10, a11⟩, -⟩ := fm.cells12 hN1
  rw [hV] at v0 v1 v2 ef a0 a1 a2 a3 a4 a5 a6 a7 a8 a9 a10 a11
  have HVV : Hid (w1.alloc (.cells #[.int .i64 1, .int .i64 200, .func (.func 233) #[] #[.pointer (some ⟨b, 0, none⟩)]] 120) = V1) := hV.symm
  clear hV hV0 ht hb1 hbv hbW1 hN1 HWW HR HBW HN HF HX
  go_wp2_with fail
  rw [HVV.out] at *
  refine HY.out.mono ?_
  clear v0 v1 v2 ef a0 a1 a2 a3 a4 a5 a6 a7 a8 a9 a10 a11
  rintro e w4 ⟨rfl, hb4⟩
  have hq1 : w4.heap[w.heap.size + 1]? = some (.cells #[.int .i64 0, .int .i64 0, .string nul] 31 (0, 0)) := (hb4.block _ (fm.lt_blk HR1.out)).trans HR1.out
  have HB : Hid (Below w.heap.size w w4) := bnext HB1.out hb4 HB1.out.size
  obtain ⟨c0, c1, c2⟩ := cells3v hq1
  have f0 := frz hq1
  have HQ1 : Hid (w4.heap[w.heap.size + 1]? = some (.cells #[.int .i64 0, .int .i64 0, .string nul] 31 (0, 0))) := hq1
  clear hq1 hb4 HR1 HB1 HY HVV
  go_wp2_with fail
  refine fin3 HQ1.out (Q := bodyPost _ _ _ _ _) ?_
  clear c0 c1 c2 f0
  intro w2 hq2 hk2
  obtain ⟨d0, d1, d2⟩ := cells3v hq2
  exact bodyPost_ret (v := VV r.k r.n r.s) (by simp [results, Tryz.results50, go_sem, d0, d1, d2]) rfl ⟨rfl, HB.out.trans (hk2 _ (by omega))⟩
set_option maxRecDepth 100000 in
set_option maxHeartbeats 1600000 in
theorem call_if (mb : Option Nat) (nm : ByteArray) (pk : Option Addr) (c : Nat) (r : V3) (w : World)
    (HF : Hid (∀ wx, Calls Tryz.prog 83 #[.string nm] wx fun e w' => e = .returned (fnI) ∧ Below wx.heap.size wx w'))
    (HX : Hid (∀ wx, Below w.heap.size w wx → Calls Tryz.prog 166 #[.agg #[.map mb, .slice pk 3 c]] wx fun e w' => e = .returned (VV r.k r.n r.s) ∧ Below wx.heap.size wx w')) :
    Calls Tryz.prog 50 #[.map mb, fm.NV 9 0 nm .z .z (.slice pk 3 c)] w fun e w' => e = .returned (VV r.k r.n r.s) ∧ Below w.heap.size w w' := by
  obtain ⟨W, hW⟩ : ∃ W, W = (w.alloc (.cells (fm.N12 9 0 nm .z .z (.slice pk 3 c)) 28)).alloc (.cells #[.int .i64 0, .int .i64 0, .string nul] 31) := ⟨_, rfl⟩
  have hbW : Below w.heap.size w W := by rw [hW]; exact ((Below.refl _ _).alloc (Nat.le_refl _) _).alloc (by simp) _
  obtain ⟨hA, hR⟩ := ev.two_new w (.cells (fm.N12 9 0 nm .z .z (.slice pk 3 c)) 28) (.cells #[.int .i64 0, .int .i64 0, .string nul] 31)
  rw [← hW] at hA hR
  have HN : Hid (W.heap[w.heap.size]? = some (.cells (fm.N12 9 0 nm .z .z (.slice pk 3 c)) 28 (0, 0))) := hA
  have HR : Hid (W.heap[w.heap.size + 1]? = some (.cells #[.int .i64 0, .int .i64 0, .string nul] 31 (0, 0))) := hR
  have HBW : Hid (Below w.heap.size w W) := hbW
  obtain ⟨⟨a0, a1, a2, a3, a4, a5, a6, a7, a8, a9, a10, a11⟩, -⟩ := fm.cells12 hA
  have HWW : Hid ((w.alloc (.cells (fm.N12 9 0 nm .z .z (.slice pk 3 c)) 28)).alloc (.cells #[.int .i64 0, .int .i64 0, .string nul] 31) = W) := hW.symm
  rw [hW] at a0 a1 a2 a3 a4 a5 a6 a7 a8 a9 a10 a11
  clear hA hR hW hbW
  go_enter Tryz.func50, Tryz.ntmps50
  go_wp2_with fail
  rw [HWW.out] at *
  refine (HF.out _).mono ?_
  clear a0 a1 a2 a3 a4 a5 a6 a7 a8 a9 a10 a11
  rintro e w1 ⟨rfl, hb1⟩
  obtain ⟨V1, hV⟩ : ∃ V1, V1 = w1.alloc (.cells #[.int .i64 2, .int .i64 3, .func (.func 166) #[] #[]] 120) := ⟨_, rfl⟩
  have hbv : Below w1.heap.size w1 V1 := by rw [hV]; exact (Below.refl _ _).alloc (Nat.le_refl _) _
  have hbW1 : Below W.heap.size W V1 := bnext hb1 hbv hb1.size
  have hN1 : V1.heap[w.heap.size]? = some (.cells (fm.N12 9 0 nm .z .z (.slice pk 3 c)) 28 (0, 0)) := (hbW1.block _ (fm.lt_blk HN.out)).trans HN.out
  have HR1 : Hid (V1.heap[w.heap.size + 1]? = some (.cells #[.int .i64 0, .int .i64 0, .string nul] 31 (0, 0))) := (hbW1.block _ (fm.lt_blk HR.out)).trans HR.out
  have HB1 : Hid (Below w.heap.size w V1) := bnext HBW.out hbW1 HBW.out.size
  have HY : Hid (Calls Tryz.prog 166 #[.agg #[.map mb, .slice pk 3 c]] V1 fun e w' => e = .returned (VV r.k r.n r.s) ∧ Below V1.heap.size V1 w') := HX.out  V1 HB1.out
  have hV0 : V1.heap[w1.heap.size]? = some (.cells #[.int .i64 2, .int .i64 3, .func (.func 166) #[] #[]] 120 (0, 0)) := by rw [hV]; exact heap_alloc_new _ _
  obtain ⟨v0, v1, v2⟩ := cells3v hV0
  have ef := eq_fnK 166 #[] V1
  obtain ⟨⟨a0, a1, a2, a3, a4, a5, a6, a7, a8, a9, a10, a11⟩, -⟩ := fm.cells12 hN1
  rw [hV] at v0 v1 v2 ef a0 a1 a2 a3 a4 a5 a6 a7 a8 a9 a10 a11
  have HVV : Hid (w1.alloc (.cells #[.int .i64 2, .int .i64 3, .func (.func 166) #[] #[]] 120) = V1) := hV.symm
  clear hV hV0 hb1 hbv hbW1 hN1 HWW HR HBW HN HF HX
  go_wp2_with fail
  rw [HVV.out] at *
  refine HY.out.mono ?_
  clear v0 v1 v2 ef a0 a1 a2 a3 a4 a5 a6 a7 a8 a9 a10 a11
  rintro e w4 ⟨rfl, hb4⟩
  have hq1 : w4.heap[w.heap.size + 1]? = some (.cells #[.int .i64 0, .int .i64 0, .string nul] 31 (0, 0)) := (hb4.block _ (fm.lt_blk HR1.out)).trans HR1.out
  have HB : Hid (Below w.heap.size w w4) := bnext HB1.out hb4 HB1.out.size
  obtain ⟨c0, c1, c2⟩ := cells3v hq1
  have f0 := frz hq1
  have HQ1 : Hid (w4.heap[w.heap.size + 1]? = some (.cells #[.int .i64 0, .int .i64 0, .string nul] 31 (0, 0))) := hq1
  clear hq1 hb4 HR1 HB1 HY HVV
  go_wp2_with fail
  refine fin3 HQ1.out (Q := bodyPost _ _ _ _ _) ?_
  clear c0 c1 c2 f0
  intro w2 hq2 hk2
  obtain ⟨d0, d1, d2⟩ := cells3v hq2
  exact bodyPost_ret (v := VV r.k r.n r.s) (by simp [results, Tryz.results50, go_sem, d0, d1, d2]) rfl ⟨rfl, HB.out.trans (hk2 _ (by omega))⟩
set_option maxRecDepth 100000 in
set_option maxHeartbeats 1600000 in
theorem call_not (mb : Option Nat) (nm : ByteArray) (pk : Option Addr) (c : Nat) (r : V3) (w : World)
    (HF : Hid (∀ wx, Calls Tryz.prog 83 #[.string nm] wx fun e w' => ∃ p q, e = .returned (fnV 1 p q) ∧ Taking w' ⟨#[118]⟩ 175 p q ∧ Below wx.heap.size wx w'))
    (HX : Hid (∀ (p q : Nat) wx, Taking wx ⟨#[118]⟩ 175 p q → Below w.heap.size w wx → Calls Tryz.prog 245 #[.agg #[.map mb, .slice pk 1 c], .pointer (some ⟨p, 0, none⟩), .pointer (some ⟨q, 0, none⟩)] wx fun e w' => e = .returned (VV r.k r.n r.s) ∧ Below wx.heap.size wx w')) :
    Calls Tryz.prog 50 #[.map mb, fm.NV 9 0 nm .z .z (.slice pk 1 c)] w fun e w' => e = .returned (VV r.k r.n r.s) ∧ Below w.heap.size w w' := by
  obtain ⟨W, hW⟩ : ∃ W, W = (w.alloc (.cells (fm.N12 9 0 nm .z .z (.slice pk 1 c)) 28)).alloc (.cells #[.int .i64 0, .int .i64 0, .string nul] 31) := ⟨_, rfl⟩
  have hbW : Below w.heap.size w W := by rw [hW]; exact ((Below.refl _ _).alloc (Nat.le_refl _) _).alloc (by simp) _
  obtain ⟨hA, hR⟩ := ev.two_new w (.cells (fm.N12 9 0 nm .z .z (.slice pk 1 c)) 28) (.cells #[.int .i64 0, .int .i64 0, .string nul] 31)
  rw [← hW] at hA hR
  have HN : Hid (W.heap[w.heap.size]? = some (.cells (fm.N12 9 0 nm .z .z (.slice pk 1 c)) 28 (0, 0))) := hA
  have HR : Hid (W.heap[w.heap.size + 1]? = some (.cells #[.int .i64 0, .int .i64 0, .string nul] 31 (0, 0))) := hR
  have HBW : Hid (Below w.heap.size w W) := hbW
  obtain ⟨⟨a0, a1, a2, a3, a4, a5, a6, a7, a8, a9, a10, a11⟩, -⟩ := fm.cells12 hA
  have HWW : Hid ((w.alloc (.cells (fm.N12 9 0 nm .z .z (.slice pk 1 c)) 28)).alloc (.cells #[.int .i64 0, .int .i64 0, .string nul] 31) = W) := hW.symm
  rw [hW] at a0 a1 a2 a3 a4 a5 a6 a7 a8 a9 a10 a11
  clear hA hR hW hbW
  go_enter Tryz.func50, Tryz.ntmps50
  go_wp2_with fail
  rw [HWW.out] at *
  refine (HF.out _).mono ?_
  clear a0 a1 a2 a3 a4 a5 a6 a7 a8 a9 a10 a11
  rintro e w1 ⟨p, q, rfl, ht, hb1⟩
  obtain ⟨V1, hV⟩ : ∃ V1, V1 = w1.alloc (.cells #[.int .i64 1, .int .i64 1, .func (.func 245) #[] #[.pointer (some ⟨p, 0, none⟩), .pointer (some ⟨q, 0, none⟩)]] 120) := ⟨_, rfl⟩
  have hbv : Below w1.heap.size w1 V1 := by rw [hV]; exact (Below.refl _ _).alloc (Nat.le_refl _) _
  have hbW1 : Below W.heap.size W V1 := bnext hb1 hbv hb1.size
  have hN1 : V1.heap[w.heap.size]? = some (.cells (fm.N12 9 0 nm .z .z (.slice pk 1 c)) 28 (0, 0)) := (hbW1.block _ (fm.lt_blk HN.out)).trans HN.out
  have HR1 : Hid (V1.heap[w.heap.size + 1]? = some (.cells #[.int .i64 0, .int .i64 0, .string nul] 31 (0, 0))) := (hbW1.block _ (fm.lt_blk HR.out)).trans HR.out
  have HB1 : Hid (Below w.heap.size w V1) := bnext HBW.out hbW1 HBW.out.size
  have HY : Hid (Calls Tryz.prog 245 #[.agg #[.map mb, .slice pk 1 c], .pointer (some ⟨p, 0, none⟩), .pointer (some ⟨q, 0, none⟩)] V1 fun e w' => e = .returned (VV r.k r.n r.s) ∧ Below V1.heap.size V1 w') := HX.out p  q V1 (ht.below hbv) HB1.out
  have hV0 : V1.heap[w1.heap.size]? = some (.cells #[.int .i64 1, .int .i64 1, .func (.func 245) #[] #[.pointer (some ⟨p, 0, none⟩), .pointer (some ⟨q, 0, none⟩)]] 120 (0, 0)) := by rw [hV]; exact heap_alloc_new _ _
  obtain ⟨v0, v1, v2⟩ := cells3v hV0
  have ef := ev.eq_fn p q V1
  obtain ⟨⟨a0, a1, a2, a3, a4, a5, a6, a7, a8, a9, a10, a11⟩, -⟩ := fm.cells12 hN1
  rw [hV] at v0 v1 v2 ef a0 a1 a2 a3 a4 a5 a6 a7 a8 a9 a10 a11
  have HVV : Hid (w1.alloc (.cells #[.int .i64 1, .int .i64 1, .func (.func 245) #[] #[.pointer (some ⟨p, 0, none⟩), .pointer (some ⟨q, 0, none⟩)]] 120) = V1) := hV.symm
  clear hV hV0 ht hb1 hbv hbW1 hN1 HWW HR HBW HN HF HX
  go_wp2_with fail
  rw [HVV.out] at *
  refine HY.out.mono ?_
  clear v0 v1 v2 ef a0 a1 a2 a3 a4 a5 a6 a7 a8 a9 a10 a11
  rintro e w4 ⟨rfl, hb4⟩
  have hq1 : w4.heap[w.heap.size + 1]? = some (.cells #[.int .i64 0, .int .i64 0, .string nul] 31 (0, 0)) := (hb4.block _ (fm.lt_blk HR1.out)).trans HR1.out
  have HB : Hid (Below w.heap.size w w4) := bnext HB1.out hb4 HB1.out.size
  obtain ⟨c0, c1, c2⟩ := cells3v hq1
  have f0 := frz hq1
  have HQ1 : Hid (w4.heap[w.heap.size + 1]? = some (.cells #[.int .i64 0, .int .i64 0, .string nul] 31 (0, 0))) := hq1
  clear hq1 hb4 HR1 HB1 HY HVV
  go_wp2_with fail
  refine fin3 HQ1.out (Q := bodyPost _ _ _ _ _) ?_
  clear c0 c1 c2 f0
  intro w2 hq2 hk2
  obtain ⟨d0, d1, d2⟩ := cells3v hq2
  exact bodyPost_ret (v := VV r.k r.n r.s) (by simp [results, Tryz.results50, go_sem, d0, d1, d2]) rfl ⟨rfl, HB.out.trans (hk2 _ (by omega))⟩
set_option maxRecDepth 100000 in
set_option maxHeartbeats 4000000 in
theorem args_v (M : Value) (pk : Option Addr) (c : Nat) (w : World) (k m : Int) (z : ByteArray) (hk : (k == 4) = false)
    (HV : Hid (∀ wx, Below w.heap.size w wx → Calls Tryz.prog 243 #[.agg #[M, .slice pk 1 c], .int .i64 0] wx fun e w' => e = .returned (VV k m z) ∧ Below wx.heap.size wx w')) :
    Calls Tryz.prog 246 #[.agg #[M, .slice pk 1 c], .string ⟨#[118]⟩] w fun e w' => ∃ A cs, e = .returned (.tuple #[.slice (some ⟨A, 0, none⟩) 1 1, VV 0 0 nul]) ∧ AB w' A 1 cs ∧ (cs 0 0 = .int .i64 k ∧ cs 0 1 = .int .i64 m ∧ cs 0 2 = .string z) ∧ Below w.heap.size w w' := by
  have hm : (Instr.makeSlice 183 (.int .i64 1) (.int .i64 1)).run Tryz.prog ((w.alloc (.cells #[M, .slice pk 1 c] 123)).alloc (.cells #[.int .i64 0, .int .i64 0, .string nul] 31)) = .ok (.slice (some ⟨w.heap.size + 1 + 1, 0, none⟩) 1 1) (((w.alloc (.cells #[M, .slice pk 1 c] 123)).alloc (.cells #[.int .i64 0, .int .i64 0, .string nul] 31)).alloc (.cells (madeCells Z10 (1 * 10)) 187)) := by
    have := make_args 1 (by omega) ((w.alloc (.cells #[M, .slice pk 1 c] 123)).alloc (.cells #[.int .i64 0, .int .i64 0, .string nul] 31))
    simpa using this
  have hS0 := AR.start w M pk 1 c
  generalize hW0 : ((w.alloc (.cells #[M, .slice pk 1 c] 123)).alloc (.cells #[.int .i64 0, .int .i64 0, .string nul] 31)).alloc (.cells (madeCells Z10 (1 * 10)) 187) = W0 at hm hS0
  have HI : Hid (∀ wx, Calls Tryz.prog 170 #[VV k m z] wx fun e w' => e = .returned (.bool false) ∧ Below wx.heap.size wx w') := fun wx => by
    have := isBad_any k m z wx
    rw [hk] at this
    exact this
  clear hk hW0
  go_enter Tryz.func246, Tryz.ntmps246
  go_wp2_with fail
  clear hm
  go_loopw [4, 17] (fun a i wr => ∃ j : Nat, i = .int .i64 j ∧ j ≤ 1 ∧ a = .slice (some ⟨w.heap.size + 1 + 1, 0, none⟩) 1 1 ∧ wr = W0) (fun _ i _ => 1 - (intOf i).toNat)
  case atStart => exact ⟨0, rfl, Nat.zero_le _, rfl, rfl⟩
  case round =>
    obtain ⟨j, rfl, hj, rfl, rfl⟩ := hrel
    by_cases hlt : j < 1
    · obtain rfl : j = 0 := by omega
      go_wp2_with fail
      exact ⟨⟨1, by simp, Nat.le_refl _, rfl, trivial⟩, by simp [intOf]⟩
    · obtain rfl : j = 1 := by omega
      go_wp2_with fail
      go_loopw [4, 41] (fun a i wr => ∃ (j : Nat) (cs : Nat → Nat → Value), i = .int .i64 j ∧ j ≤ 1 ∧ a = .slice (some ⟨w.heap.size + 1 + 1, 0, none⟩) 1 1 ∧ AR w M pk 1 c cs wr ∧ (j = 1 → cs 0 0 = .int .i64 k ∧ cs 0 1 = .int .i64 m ∧ cs 0 2 = .string z)) (fun _ i _ => 1 - (intOf i).toNat)
      case atStart => exact ⟨0, _, rfl, Nat.zero_le _, rfl, hS0, fun h => absurd h (by omega)⟩
      case round =>
        clear hS0
        obtain ⟨j, cs, rfl, hj2, rfl, hS, hv⟩ := hrel
        have HVV : Hid (j = 1 → cs 0 0 = .int .i64 k ∧ cs 0 1 = .int .i64 m ∧ cs 0 2 = .string z) := hv
        clear hv
        by_cases hlt : j < 1
        · obtain rfl : j = 0 := by omega
          have m0 : wr.cell? ⟨w.heap.size, 0, none⟩ = some M := by simp [World.cell?, hS.c]
          have m1 : wr.cell? ⟨w.heap.size, 1, none⟩ = some (.slice pk 1 c) := by simp [World.cell?, hS.c]
          have HS : Hid (AR w M pk 1 c cs wr) := hS
          clear hS HVV
          go_wp2_with fail
          refine (HV.out _ HS.out.below).mono ?_
          clear m0 m1
          rintro e1 w1 ⟨rfl, hb1⟩
          have hS1 := HS.out.next hb1
          have x0 := hS1.ab.cell (i := 0) (by omega) (j := 0) (by omega)
          have x1 := hS1.ab.cell (i := 0) (by omega) (j := 1) (by omega)
          have x2 := hS1.ab.cell (i := 0) (by omega) (j := 2) (by omega)
          have f0 := hS1.ab.frozen
          simp only [Nat.zero_mul, Nat.zero_add] at x0 x1 x2
          have HS1 : Hid (AR w M pk 1 c cs w1) := hS1
          clear hS1 HS hb1
          go_wp2_with fail
          clear x0 x1 x2 f0
          have hS2 := ((HS1.out.set (i := 0) (by omega) (j := 0) (by omega) (.int .i64 k)).set (i := 0) (by omega) (j := 1) (by omega) (.int .i64 m)).set (i := 0) (by omega) (j := 2) (by omega) (.string z)
          simp only [Nat.zero_mul, Nat.zero_add] at hS2
          have HS2 : Hid (AR w M pk 1 c (csSet (csSet (csSet cs 0 0 (.int .i64 k)) 0 1 (.int .i64 m)) 0 2 (.string z)) (((w1.setCell ⟨w.heap.size + 1 + 1, 0, none⟩ (.int .i64 k)).setCell ⟨w.heap.size + 1 + 1, 1, none⟩ (.int .i64 m)).setCell ⟨w.heap.size + 1 + 1, 2, none⟩ (.string z))) := hS2
          clear hS2
          refine (HI.out _).mono ?_
          rintro e2 w2 ⟨rfl, hb2⟩
          have hS3 := HS2.out.next hb2
          clear HS2 hb2 HS1
          go_wp2_with fail
          refine ⟨?_, by simp [intOf]⟩
          repeat apply Exists.intro
          refine And.intro ?_ rfl
          exact ⟨1, _, by simp, Nat.le_refl _, rfl, hS3, fun _ => ⟨by simp [csSet], by simp [csSet], by simp [csSet]⟩⟩
        · obtain rfl : j = 1 := by omega
          have HS : Hid (AR w M pk 1 c cs wr) := hS
          clear hS
          go_wp2_with fail
          go_loopw [4, 69] (fun a i wr => ∃ (j : Nat), i = .int .i64 j ∧ j ≤ 1 ∧ a = .slice (some ⟨w.heap.size + 1 + 1, 0, none⟩) 1 1 ∧ AR w M pk 1 c cs wr) (fun _ i _ => 1 - (intOf i).toNat)
          case atStart => exact ⟨0, rfl, Nat.zero_le _, rfl, HS.out⟩
          case round =>
          clear HS
          obtain ⟨j, rfl, hj2, rfl, hS⟩ := hrel
          have HS : Hid (AR w M pk 1 c cs wr) := hS
          by_cases hlt : j < 1
          · obtain rfl : j = 0 := by omega
            clear hS
            go_wp2_with fail
            exact ⟨⟨1, by simp, Nat.le_refl _, rfl, HS.out⟩, by simp [intOf]⟩
          · obtain rfl : j = 1 := by omega
            obtain ⟨r0, r1, r2⟩ := cells3v hS.r
            have g0 := frz hS.r
            clear hS
            go_wp2_with fail
            refine fin3e HS.out.r (Q := bodyPost _ _ _ _ _) ?_
            clear r0 r1 r2 g0
            intro w2 hq2 hk2 he2
            obtain ⟨d0, d1, d2⟩ := cells3v hq2
            exact bodyPost_ret (v := .tuple #[.slice (some ⟨w.heap.size + 1 + 1, 0, none⟩) 1 1, VV 0 0 nul]) (by simp [results, Tryz.results246, go_sem, d0, d1, d2]) rfl ⟨_, cs, rfl, ab_keep HS.out.ab he2 (by omega), by first | exact HVV.out rfl | exact HVV.out trivial, HS.out.below.trans (hk2 _ (by omega))⟩
set_option maxRecDepth 100000 in
set_option maxHeartbeats 4000000 in
theorem args_vbad (M : Value) (pk : Option Addr) (c : Nat) (w : World) (k m : Int) (z : ByteArray) (hk : (k == 4) = true)
    (HV : Hid (∀ wx, Below w.heap.size w wx → Calls Tryz.prog 243 #[.agg #[M, .slice pk 1 c], .int .i64 0] wx fun e w' => e = .returned (VV k m z) ∧ Below wx.heap.size wx w')) :
    Calls Tryz.prog 246 #[.agg #[M, .slice pk 1 c], .string ⟨#[118]⟩] w fun e w' => e = .returned (.tuple #[.slice none 0 0, VV k m z]) ∧ Below w.heap.size w w' := by
  have hm : (Instr.makeSlice 183 (.int .i64 1) (.int .i64 1)).run Tryz.prog ((w.alloc (.cells #[M, .slice pk 1 c] 123)).alloc (.cells #[.int .i64 0, .int .i64 0, .string nul] 31)) = .ok (.slice (some ⟨w.heap.size + 1 + 1, 0, none⟩) 1 1) (((w.alloc (.cells #[M, .slice pk 1 c] 123)).alloc (.cells #[.int .i64 0, .int .i64 0, .string nul] 31)).alloc (.cells (madeCells Z10 (1 * 10)) 187)) := by
    have := make_args 1 (by omega) ((w.alloc (.cells #[M, .slice pk 1 c] 123)).alloc (.cells #[.int .i64 0, .int .i64 0, .string nul] 31))
    simpa using this
  have hS0 := AR.start w M pk 1 c
  generalize hW0 : ((w.alloc (.cells #[M, .slice pk 1 c] 123)).alloc (.cells #[.int .i64 0, .int .i64 0, .string nul] 31)).alloc (.cells (madeCells Z10 (1 * 10)) 187) = W0 at hm hS0
  have HI : Hid (∀ wx, Calls Tryz.prog 170 #[VV k m z] wx fun e w' => e = .returned (.bool true) ∧ Below wx.heap.size wx w') := fun wx => by
    have := isBad_any k m z wx
    rw [hk] at this
    exact this
  clear hk hW0
  go_enter Tryz.func246, Tryz.ntmps246
  go_wp2_with fail
  clear hm
  go_loopw [4, 17] (fun a i wr => ∃ j : Nat, i = .int .i64 j ∧ j ≤ 1 ∧ a = .slice (some ⟨w.heap.size + 1 + 1, 0, none⟩) 1 1 ∧ wr = W0) (fun _ i _ => 1 - (intOf i).toNat)
  case atStart => exact ⟨0, rfl, Nat.zero_le _, rfl, rfl⟩
  case round =>
    obtain ⟨j, rfl, hj, rfl, rfl⟩ := hrel
    by_cases hlt : j < 1
    · obtain rfl : j = 0 := by omega
      go_wp2_with fail
      exact ⟨⟨1, by simp, Nat.le_refl _, rfl, trivial⟩, by simp [intOf]⟩
    · obtain rfl : j = 1 := by omega
      go_wp2_with fail
      go_loopw [4, 41] (fun a i wr => ∃ (j : Nat) (cs : Nat → Nat → Value), i = .int .i64 j ∧ j ≤ 1 ∧ a = .slice (some ⟨w.heap.size + 1 + 1, 0, none⟩) 1 1 ∧ AR w M pk 1 c cs wr ∧ j = 0) (fun _ i _ => 1 - (intOf i).toNat)
      case atStart => exact ⟨0, _, rfl, Nat.zero_le _, rfl, hS0, rfl⟩
      case round =>
        clear hS0
        obtain ⟨j, cs, rfl, hj2, rfl, hS, hv⟩ := hrel
        subst hv
        · have m0 : wr.cell? ⟨w.heap.size, 0, none⟩ = some M := by simp [World.cell?, hS.c]
          have m1 : wr.cell? ⟨w.heap.size, 1, none⟩ = some (.slice pk 1 c) := by simp [World.cell?, hS.c]
          have HS : Hid (AR w M pk 1 c cs wr) := hS
          clear hS
          go_wp2_with fail
          refine (HV.out _ HS.out.below).mono ?_
          clear m0 m1
          rintro e1 w1 ⟨rfl, hb1⟩
          have hS1 := HS.out.next hb1
          have x0 := hS1.ab.cell (i := 0) (by omega) (j := 0) (by omega)
          have x1 := hS1.ab.cell (i := 0) (by omega) (j := 1) (by omega)
          have x2 := hS1.ab.cell (i := 0) (by omega) (j := 2) (by omega)
          have f0 := hS1.ab.frozen
          simp only [Nat.zero_mul, Nat.zero_add] at x0 x1 x2
          have HS1 : Hid (AR w M pk 1 c cs w1) := hS1
          clear hS1 HS hb1
          go_wp2_with fail
          clear x0 x1 x2 f0
          have hS2 := ((HS1.out.set (i := 0) (by omega) (j := 0) (by omega) (.int .i64 k)).set (i := 0) (by omega) (j := 1) (by omega) (.int .i64 m)).set (i := 0) (by omega) (j := 2) (by omega) (.string z)
          simp only [Nat.zero_mul, Nat.zero_add] at hS2
          have HS2 : Hid (AR w M pk 1 c (csSet (csSet (csSet cs 0 0 (.int .i64 k)) 0 1 (.int .i64 m)) 0 2 (.string z)) (((w1.setCell ⟨w.heap.size + 1 + 1, 0, none⟩ (.int .i64 k)).setCell ⟨w.heap.size + 1 + 1, 1, none⟩ (.int .i64 m)).setCell ⟨w.heap.size + 1 + 1, 2, none⟩ (.string z))) := hS2
          clear hS2
          refine (HI.out _).mono ?_
          rintro e2 w2 ⟨rfl, hb2⟩
          have hS3 := HS2.out.next hb2
          clear HS2 hb2 HS1
          have y0 := hS3.ab.cell (i := 0) (by omega) (j := 0) (by omega)
          have y1 := hS3.ab.cell (i := 0) (by omega) (j := 1) (by omega)
          have y2 := hS3.ab.cell (i := 0) (by omega) (j := 2) (by omega)
          simp only [Nat.zero_mul, Nat.zero_add] at y0 y1 y2
          rw [show csSet (csSet (csSet cs 0 0 (.int .i64 k)) 0 1 (.int .i64 m)) 0 2 (.string z) 0 0 = .int .i64 k from by simp [csSet]] at y0
          rw [show csSet (csSet (csSet cs 0 0 (.int .i64 k)) 0 1 (.int .i64 m)) 0 2 (.string z) 0 1 = .int .i64 m from by simp [csSet]] at y1
          rw [show csSet (csSet (csSet cs 0 0 (.int .i64 k)) 0 1 (.int .i64 m)) 0 2 (.string z) 0 2 = .string z from by simp [csSet]] at y2
          obtain ⟨r0, r1, r2⟩ := cells3v hS3.r
          have g0 := frz hS3.r
          have HQ : Hid (w2.heap[w.heap.size + 1]? = some (.cells #[.int .i64 0, .int .i64 0, .string nul] 31 (0, 0))) := hS3.r
          have HB : Hid (Below w.heap.size w w2) := hS3.below
          clear hS3
          go_wp2_with fail
          go_region
          all_goals
            go_wp2_with fail
            refine fin3 (w := World.drew w2) (t := 31) HQ.out (Q := bodyPost _ _ _ _ _) ?_
            clear r0 r1 r2 g0
            intro w4 hq4 hk4
            obtain ⟨d0, d1, d2⟩ := cells3v hq4
            exact bodyPost_ret (v := .tuple #[.slice none 0 0, VV k m z]) (by simp [results, Tryz.results246, go_sem, d0, d1, d2]) rfl ⟨rfl, HB.out.drew.trans (hk4 _ (by omega))⟩
end Go.Proofs.YtoaejcppfmjhdaaGreatDoor.ov
/- Package eval: what comes of the arguments of a call, of which none is a box. Conditions: as each theorem says. -/
namespace Go.Proofs.YtoaejcppfmjhdaaGreatDoor.ov
open Go.RowKit Go.Shelf
open ev (VV fin3 cells3v frz blk_else)
attribute [local go_sem] Oper.semAt_some
def upto (X : Nat → It) (n : Nat) : List It := (List.range n).map X
theorem upto_succ (X : Nat → It) (n : Nat) : upto X (n + 1) = upto X n ++ [X n] := by simp [upto, List.range_succ]
theorem upto_len (X : Nat → It) (n : Nat) : (upto X n).length = n := by simp [upto]
theorem upto_pre (X : Nat → It) {m n : Nat} (h : m ≤ n) : upto X m <+: upto X n := by
  obtain ⟨d, rfl⟩ : ∃ d, n = m + d := ⟨n - m, by omega⟩
  clear h
  induction d with
  | zero => exact List.prefix_rfl
  | succ d ih => rw [← Nat.add_assoc, upto_succ]; exact ih.trans (List.prefix_append _ _)
theorem yes_no {e : Ending} {p q : Prop} (h : (e = .returned (.bool true) ∧ p) ∨ (e = .returned (.bool false) ∧ q)) : ∃ b, e = .returned (.bool b) ∧ ((b = true ∧ p) ∨ (b = false ∧ q)) := by
  rcases h with ⟨rfl, h⟩ | ⟨rfl, h⟩
  · exact ⟨true, rfl, .inl ⟨rfl, h⟩⟩
  · exact ⟨false, rfl, .inr ⟨rfl, h⟩⟩
theorem grown_of {W W' : World} (h : Below W.heap.size W W') : W.grownBy W' none := ⟨h.os, h.tape, h.output, h.size, fun k hk _ => h.block k hk⟩
set_option maxRecDepth 100000 in
set_option maxHeartbeats 4000000 in
theorem items_in (m : Nat) (hm : 1 ≤ m) (M : Value) (p : Option Addr) (q c : Nat) (hq : q ≤ 1000000) (X : Nat → It) (w : World) (Bc : Nat) (hBc : w.heap[Bc]? = some (.cells #[M, .slice p q c] 123 (0, 0)))
    (hX : ∀ i, i < q → (X i).b = false)
    (HG : Hid (∀ (i : Nat) wx, i < q → Below w.heap.size w wx → Calls Tryz.prog 266 #[.agg #[M, .slice p q c], .int .i64 i] wx fun e w' => e = .returned (.tuple #[.agg #[.map none, .int .i64 0, .int .i64 0, .int .i64 0, .int .i64 0], .bool false]) ∧ Below wx.heap.size wx w'))
    (HV : Hid (∀ (i : Nat) wx, i < q → Below w.heap.size w wx → Calls Tryz.prog 243 #[.agg #[M, .slice p q c], .int .i64 i] wx fun e w' => e = .returned (VV (X i).k (X i).n (X i).s) ∧ Below wx.heap.size wx w'))
    (l : Nat) (J Jx : List It → World → Prop) (W : World) (hW : Below w.heap.size w W) (hJ : AbidesFrom W.heap.size J)
    (hY : ∀ pre x W1, J pre W1 → pre.length < q → YieldAt Fence.wide (m - 1) Tryz.prog l (It.enc x) W1 fun e W' =>
      (e = .returned (.bool true) ∧ J (pre ++ [x]) W' ∧ KB w.heap.size W1 W') ∨ (e = .returned (.bool false) ∧ Jx (pre ++ [x]) W'))
    (h0 : J [] W) :
    CallsIn Fence.wide m Tryz.prog 265 #[.func (.yield l) #[] #[], .pointer (some ⟨Bc, 0, none⟩)] W fun e W' => (∃ v, e = .returned v) ∧
      ((∃ ys, ys = upto X q ∧ J ys W') ∨ (∃ pre, pre <+: upto X q ∧ Jx pre W')) := by
  have hB0 := hW.alloc hW.size (.cells #[.func (.yield l) #[] #[]] 180)
  have hb0 := (hW.block _ (fm.lt_blk hBc)).trans hBc
  have hbc := (hB0.block _ (fm.lt_blk hBc)).trans hBc
  have c0 : (W.alloc (.cells #[.func (.yield l) #[] #[]] 180)).cell? ⟨Bc, 0, none⟩ = some M := by simp [World.cell?, hbc]
  have c1 : (W.alloc (.cells #[.func (.yield l) #[] #[]] 180)).cell? ⟨Bc, 1, none⟩ = some (.slice p q c) := by simp [World.cell?, hbc]
  have hJ0 : J [] (W.alloc (.cells #[.func (.yield l) #[] #[]] 180)) := hJ [] W _ none h0 (World.grownBy_alloc W _ none) (fun r e => by cases e)
  have hY0 := heap_alloc_new W (.cells #[.func (.yield l) #[] #[]] 180)
  refine callsIn_of_wp Tryz.func265 rfl trivial ?_ rfl
  simp only [Tryz.ntmps265, List.size_toArray, List.length_cons, List.length_nil, Nat.reduceAdd, Nat.reduceSub, Array.replicate_succ, Array.replicate_zero, List.push_toArray, List.append_toArray, List.nil_append, List.cons_append]
  gi_wp2
  gi_loopw [11] (fun i wr => ∃ j : Nat, j ≤ q ∧ i = .int .i64 j ∧ J (upto X j) wr ∧ wr.heap[W.heap.size]? = some (.cells #[.func (.yield l) #[] #[]] 180 (0, 0)) ∧ Below w.heap.size w wr)
    (fun i _ => q - (intOf i).toNat)
  case atStart => exact ⟨0, Nat.zero_le _, rfl, hJ0, hY0, hB0⟩
  case round =>
    obtain ⟨j, hj, rfl, hJs, hYs, hbs⟩ := hrel
    by_cases hlt : j < q
    · have hlt' : (j : Int) < (q : Int) := by omega
      have hbc1 := (hbs.block _ (fm.lt_blk hBc)).trans hBc
      have d0 : wr.cell? ⟨Bc, 0, none⟩ = some M := by simp [World.cell?, hbc1]
      have d1 : wr.cell? ⟨Bc, 1, none⟩ = some (.slice p q c) := by simp [World.cell?, hbc1]
      gi_wp2_with fail
      refine ⟨trivial, ?_⟩
      refine (callsIn_wide.2 (HG.out j wr hlt hbs)).mono ?_
      rintro e w1 ⟨rfl, hb1⟩
      have hb2 : Below w1.heap.size w1 (w1.alloc (.cells #[.map none, .int .i64 0, .int .i64 0, .int .i64 0, .int .i64 0] 185)) := (Below.refl _ _).alloc (Nat.le_refl _) _
      have hbw1 := bnext hbs hb1 hbs.size
      have hbs2 := bnext hbw1 hb2 hbw1.size
      have hbc2 := (hbs2.block _ (fm.lt_blk hBc)).trans hBc
      have hb12 := bnext hb1 hb2 hb1.size
      have hY2 := (hb12.block _ (fm.lt_blk hYs)).trans hYs
      have hJ2 : J (upto X j) (w1.alloc (.cells #[.map none, .int .i64 0, .int .i64 0, .int .i64 0, .int .i64 0] 185)) := hJ _ wr _ none hJs (grown_of hb12) (fun r e => by cases e)
      have e0 : (w1.alloc (.cells #[.map none, .int .i64 0, .int .i64 0, .int .i64 0, .int .i64 0] 185)).cell? ⟨Bc, 0, none⟩ = some M := by simp [World.cell?, hbc2]
      have e1 : (w1.alloc (.cells #[.map none, .int .i64 0, .int .i64 0, .int .i64 0, .int .i64 0] 185)).cell? ⟨Bc, 1, none⟩ = some (.slice p q c) := by simp [World.cell?, hbc2]
      have y0 : (w1.alloc (.cells #[.map none, .int .i64 0, .int .i64 0, .int .i64 0, .int .i64 0] 185)).cell? ⟨W.heap.size, 0, none⟩ = some (.func (.yield l) #[] #[]) := by simp [World.cell?, hY2]
      clear d0 d1 hbc1
      gi_wp2_with fail
      generalize w1.alloc (.cells #[.map none, .int .i64 0, .int .i64 0, .int .i64 0, .int .i64 0] 185) = V1 at *
      have hmx : Tryz.prog.follows .mixedOrders = true := by kernel_rfl
      have hd : 1 ≤ m := hm
      have hf243 : Fence.wide.fn 243 := trivial
      have HN : Hid (∀ w3, Below V1.drew.heap.size V1.drew w3 → w3.cell? ⟨W.heap.size, 0, none⟩ = some (.func (.yield l) #[] #[]) ∧ w3.heap[W.heap.size]? = some (.cells #[.func (.yield l) #[] #[]] 180 (0, 0)) ∧ Below w.heap.size w w3 ∧ ∃ fn tmps assign body, (Instr.yield l #[VV (X j).k (X j).n (X j).s, .bool false]).run Tryz.prog w3 = .ok (.round l fn tmps assign body) w3 ∧ RoundIn Fence.wide (m - 1) Tryz.prog l fn tmps assign body w3 fun e W' => (e = .returned (.bool true) ∧ J (upto X j ++ [X j]) W' ∧ KB w.heap.size w3 W') ∨ (e = .returned (.bool false) ∧ Jx (upto X j ++ [X j]) W')) := fun w3 hb3 => by
        have hY3 := (hb3.block _ (fm.lt_blk hY2)).trans hY2
        have hb3' : Below V1.heap.size V1 w3 := ((Below.refl _ _).drew).trans hb3
        have hJ3 : J (upto X j) w3 := hJ _ V1 _ none hJ2 (grown_of hb3') (fun r e => by cases e)
        obtain ⟨fn, tmps, assign, body, hy, hR⟩ := hY _ (X j) w3 hJ3 (by rw [upto_len]; exact hlt)
        dsimp only [It.enc] at hy
        rw [hX j hlt] at hy
        exact ⟨by simp [World.cell?, hY3], hY3, bnext hbs2 hb3' hbs2.size, fn, tmps, assign, body, hy, hR⟩
      clear hY
      gi_region_with_o (first | (gi_at_call 243; refine (callsIn_wide.2 (HV.out j _ hlt hbs2.drew)).mono ?_; rintro e w3 ⟨rfl, hb3⟩; obtain ⟨y3, hY3, hbw3, fn, tmps, assign, body, hy, hR⟩ := HN.out w3 hb3) | (refine hR.mono ?_; intro e W3 hcase; obtain ⟨b, rfl, hcb⟩ := yes_no hcase))
      all_goals
        rcases hcb with ⟨rfl, hJ4, hk4⟩ | ⟨rfl, hJx4⟩
        · gi_wp2_with fail
          go_roundw
          case rel => exact ⟨j + 1, by omega, by simp, by rw [upto_succ]; exact hJ4, hk4.keep _ _ hY3, hbw3.trans hk4.below⟩
          case measure => simp [intOf]; omega
        · gi_wp2_with fail
          refine bodyPost_ret (results_none rfl _ _ _) rfl ?_
          exact ⟨⟨_, rfl⟩, .inr ⟨_, by rw [← upto_succ]; exact upto_pre X (by omega), hJx4⟩⟩
    · obtain rfl : j = q := by omega
      gi_wp2
      go_end0
      exact ⟨⟨_, rfl⟩, .inl ⟨_, rfl, hJs⟩⟩
/-- What comes of a call's arguments, of which none is a box. -/
theorem items_stops (m : Nat) (hm : 1 ≤ m) (M : Value) (p : Option Addr) (q c : Nat) (hq : q ≤ 1000000) (X : Nat → It) (w : World) (Bc : Nat) (hBc : w.heap[Bc]? = some (.cells #[M, .slice p q c] 123 (0, 0)))
    (hX : ∀ i, i < q → (X i).b = false)
    (HG : Hid (∀ (i : Nat) wx, i < q → Below w.heap.size w wx → Calls Tryz.prog 266 #[.agg #[M, .slice p q c], .int .i64 i] wx fun e w' => e = .returned (.tuple #[.agg #[.map none, .int .i64 0, .int .i64 0, .int .i64 0, .int .i64 0], .bool false]) ∧ Below wx.heap.size wx w'))
    (HV : Hid (∀ (i : Nat) wx, i < q → Below w.heap.size w wx → Calls Tryz.prog 243 #[.agg #[M, .slice p q c], .int .i64 i] wx fun e w' => e = .returned (VV (X i).k (X i).n (X i).s) ∧ Below wx.heap.size wx w')) :
    SeqStopsK Fence.wide m Tryz.prog 265 #[.pointer (some ⟨Bc, 0, none⟩)] It.enc (KB w.heap.size) (fun ys => ys = upto X q) (fun pre => pre <+: upto X q) (upto X q).length w := fun l J Jx W hW hJ _ hY h0 =>
  items_in m hm M p q c hq X w Bc hBc hX HG HV l J Jx W hW hJ (fun pre x W1 h1 h2 => hY pre x W1 h1 (by rw [upto_len]; exact h2)) h0
end Go.Proofs.YtoaejcppfmjhdaaGreatDoor.ov
/- Package eval: AND and OR, as truths of what comes of their arguments. Conditions: as each theorem says. -/
namespace Go.Proofs.YtoaejcppfmjhdaaGreatDoor.ov
open Go.RowKit
open ev (VV fin3 cells3v b2I frz fin3e isBad_any two_new blk_else)
theorem items_make (M : Value) (p : Option Addr) (q c : Nat) (w : World) : Calls Tryz.prog 234 #[.agg #[M, .slice p q c]] w fun e w' => ∃ Bc, e = .returned (.func (.func 265) #[] #[.pointer (some ⟨Bc, 0, none⟩)]) ∧ w'.heap[Bc]? = some (.cells #[M, .slice p q c] 123 (0, 0)) ∧ Below w.heap.size w w' := by
  go_enter Tryz.func234, Tryz.ntmps234
  go_wp2_with fail
  go_ret
  exact ⟨_, rfl, heap_alloc_new _ _, (Below.refl _ _).alloc (Nat.le_refl _) _⟩
/-- The call, the work in its box, the answer's block. -/
structure MY (w : World) (M : Value) (p : Option Addr) (q c b pc pr pw : Nat) (wx : World) : Prop where
  call : wx.heap[w.heap.size]? = some (.cells #[M, .slice p q c] 123 (0, 0))
  res : ∃ x0 x1 x2, wx.heap[w.heap.size + 1]? = some (.cells #[x0, x1, x2] 31 (0, 0))
  below : Below w.heap.size w wx
section
variable {w : World} {M : Value} {p : Option Addr} {q c b pc pr pw : Nat} {wx : World}
theorem MY.next (h : MY w M p q c b pc pr pw wx) {wy : World} (hb : Below wx.heap.size wx wy) : MY w M p q c b pc pr pw wy :=
  ⟨(hb.block _ (fm.lt_blk h.call)).trans h.call, by obtain ⟨x0, x1, x2, h1⟩ := h.res; exact ⟨x0, x1, x2, (hb.block _ (fm.lt_blk h1)).trans h1⟩, bnext h.below hb h.below.size⟩
theorem MY.set3 (h : MY w M p q c b pc pr pw wx) (u0 u1 u2 : Value) : MY w M p q c b pc pr pw (((wx.setCell ⟨w.heap.size + 1, 0, none⟩ u0).setCell ⟨w.heap.size + 1, 1, none⟩ u1).setCell ⟨w.heap.size + 1, 2, none⟩ u2) :=
  ⟨by rw [blk_else (by omega), blk_else (by omega), blk_else (by omega)]; exact h.call,
   by obtain ⟨x0, x1, x2, h1⟩ := h.res; exact ⟨_, _, _, fm.blk_set (fm.blk_set (fm.blk_set h1))⟩,
   ((h.below.setCell (by simp) _).setCell (by simp) _).setCell (by simp) _⟩
abbrev MYO (w : World) (M : Value) (p : Option Addr) (q c b pc pr pw : Nat) (wx : World) : Prop :=
  wx.cell? ⟨w.heap.size, 0, none⟩ = some M ∧ wx.cell? ⟨w.heap.size, 1, none⟩ = some (.slice p q c) ∧ wx.cell? ⟨b, 0, none⟩ = some (.func (.func 267) #[] #[.pointer (some ⟨pc, 0, none⟩), .pointer (some ⟨pr, 0, none⟩), .pointer (some ⟨pw, 0, none⟩)]) ∧ MY w M p q c b pc pr pw wx
theorem MY.opened (h : MY w M p q c b pc pr pw wx) (hb : Boxed w b 176 (.func (.func 267) #[] #[.pointer (some ⟨pc, 0, none⟩), .pointer (some ⟨pr, 0, none⟩), .pointer (some ⟨pw, 0, none⟩)])) : MYO w M p q c b pc pr pw wx :=
  ⟨by simp [World.cell?, h.call], by simp [World.cell?, h.call], Boxed.cell ((h.below.block _ hb.lt).trans hb), h⟩
theorem myo (h : MYO w M p q c b pc pr pw wx) : MY w M p q c b pc pr pw wx := h.2.2.2
end
set_option maxRecDepth 100000 in
set_option maxHeartbeats 4000000 in
theorem many1_any (M : Value) (p : Option Addr) (q c b pc pr pw : Nat) (r : V3) (w : World) (hb : Boxed w b 176 (.func (.func 267) #[] #[.pointer (some ⟨pc, 0, none⟩), .pointer (some ⟨pr, 0, none⟩), .pointer (some ⟨pw, 0, none⟩)]))
    (HX : Hid (∀ wy Bc, wy.heap[Bc]? = some (.cells #[M, .slice p q c] 123 (0, 0)) → Below w.heap.size w wy → Calls Tryz.prog 267 #[.func (.func 265) #[] #[.pointer (some ⟨Bc, 0, none⟩)], .pointer (some ⟨pc, 0, none⟩), .pointer (some ⟨pr, 0, none⟩), .pointer (some ⟨pw, 0, none⟩)] wy fun e w' => e = .returned (VV r.k r.n r.s) ∧ Below wy.heap.size wy w')) :
    Calls Tryz.prog 233 #[.agg #[M, .slice p q c], .pointer (some ⟨b, 0, none⟩)] w fun e w' => e = .returned (VV r.k r.n r.s) ∧ Below w.heap.size w w' := by
  obtain ⟨hA, hR⟩ := two_new w (.cells #[M, .slice p q c] 123) (.cells #[.int .i64 0, .int .i64 0, .string nul] 31)
  have hbW : Below w.heap.size w ((w.alloc (.cells #[M, .slice p q c] 123)).alloc (.cells #[.int .i64 0, .int .i64 0, .string nul] 31)) := ((Below.refl _ _).alloc (Nat.le_refl _) _).alloc (by simp) _
  have hMY : MY w M p q c b pc pr pw ((w.alloc (.cells #[M, .slice p q c] 123)).alloc (.cells #[.int .i64 0, .int .i64 0, .string nul] 31)) := ⟨hA, ⟨_, _, _, hR⟩, hbW⟩
  have HIM : Hid (∀ wx, Calls Tryz.prog 234 #[.agg #[M, .slice p q c]] wx fun e w' => ∃ Bc, e = .returned (.func (.func 265) #[] #[.pointer (some ⟨Bc, 0, none⟩)]) ∧ w'.heap[Bc]? = some (.cells #[M, .slice p q c] 123 (0, 0)) ∧ Below wx.heap.size wx w') := fun wx => items_make M p q c wx
  have HB : Hid (Boxed w b 176 (.func (.func 267) #[] #[.pointer (some ⟨pc, 0, none⟩), .pointer (some ⟨pr, 0, none⟩), .pointer (some ⟨pw, 0, none⟩)])) := hb
  clear hA hR hbW hb
  go_enter Tryz.func233, Tryz.ntmps233
  go_wp2_with fail
  generalize (w.alloc (.cells #[M, .slice p q c] 123)).alloc (.cells #[.int .i64 0, .int .i64 0, .string nul] 31) = W at *
  have h0d := (hMY.next (Below.refl _ _).drew).opened HB.out
  obtain ⟨y0, y1, y2, -⟩ := hMY.opened HB.out
  go_region_held3 (fun wx => MYO w M p q c b pc pr pw wx) (first | exact h0d | exact ((myo (by assumption)).next (by assumption)).opened HB.out | exact ((myo (by assumption)).set3 _ _ _).opened HB.out) (first | (go_at_call 234; refine (HIM.out _).mono ?_; rintro e w1 ⟨Bc, rfl, hBc, hb1⟩; have HBc : Hid (w1.heap[Bc]? = some (.cells #[M, .slice p q c] 123 (0, 0))) := hBc; clear hBc) | (go_at_call 267; refine (HX.out _ _ HBc.out (myo (by assumption)).below).mono ?_; rintro e w3 ⟨rfl, hb3⟩; have hk3 := (myo (by assumption)).next hb3; obtain ⟨t0, t1, t2, hq1⟩ := hk3.res; have HBL : Hid (Below w.heap.size w w3) := hk3.below; obtain ⟨c0, c1, c2⟩ := cells3v hq1; have f0 := frz hq1))
  all_goals
    have HQ1 : Hid (w3.heap[w.heap.size + 1]? = some (.cells #[t0, t1, t2] 31 (0, 0))) := hq1
    clear hq1 hb3 hk3 h0d hMY
    go_wp2_with fail
    refine fin3 HQ1.out (Q := bodyPost _ _ _ _ _) ?_
    clear c0 c1 c2 f0
    intro w4 hq4 hk4
    obtain ⟨d0, d1, d2⟩ := cells3v hq4
    exact bodyPost_ret (v := VV r.k r.n r.s) (by simp [results, Tryz.results233, go_sem, d0, d1, d2]) rfl ⟨rfl, HBL.out.trans (hk4 _ (by omega))⟩
end Go.Proofs.YtoaejcppfmjhdaaGreatDoor.ov
/- Package eval: which names stand for SUM, MIN, MAX, COUNT and COUNTA, and their calls. Conditions: as each theorem says. -/
namespace Go.Proofs.YtoaejcppfmjhdaaGreatDoor.ov
open Go.RowKit
open ev (VV fin3 cells3v b2I frz noF fin3e ix0 ix1 ix2 ne_nil bstep Taking fnV taking_any ne_fn rounds_step isBad_any two_new blk_else)
theorem countsN_any (k : Int) (w : World) : Calls Tryz.prog 235 #[.int .i64 k] w fun e w' => e = .returned (.bool (k == 1)) ∧ Below w.heap.size w w' := by
  cases h1 : (k == 1) with
  | true =>
    go_enter Tryz.func235, Tryz.ntmps235
    go_wp2_with fail
    go_ret
    exact ⟨rfl, Below.refl _ _⟩
  | false =>
    go_enter Tryz.func235, Tryz.ntmps235
    go_wp2_with fail
    go_ret
    exact ⟨rfl, Below.refl _ _⟩
/-- What works on numbers, in its box. -/
def ManyN (K b : Nat) (w : World) : Prop := ∃ pc pr pw, Boxed w b 176 (.func (.func 267) #[] #[.pointer (some ⟨pc, 0, none⟩), .pointer (some ⟨pr, 0, none⟩), .pointer (some ⟨pw, 0, none⟩)]) ∧ Boxed w pc 147 (.func (.func 235) #[] #[]) ∧ Boxed w pr 60 (.func (.func 106) #[] #[]) ∧ Boxed w pw 178 (.func (.func K) #[] #[])
/-- What counts, in its box. -/
def ManyC (K b : Nat) (w : World) : Prop := ∃ pc, Boxed w b 176 (.func (.func 239) #[] #[.pointer (some ⟨pc, 0, none⟩)]) ∧ Boxed w pc 180 (.func (.func K) #[] #[])
theorem ManyN.below {K b : Nat} {w w' : World} (h : ManyN K b w) (hb : Below w.heap.size w w') : ManyN K b w' := by
  obtain ⟨pc, pr, pw, h1, h2, h3, h4⟩ := h
  exact ⟨pc, pr, pw, (hb.block _ h1.lt).trans h1, (hb.block _ h2.lt).trans h2, (hb.block _ h3.lt).trans h3, (hb.block _ h4.lt).trans h4⟩
theorem ManyC.below {K b : Nat} {w w' : World} (h : ManyC K b w) (hb : Below w.heap.size w w') : ManyC K b w' := by
  obtain ⟨pc, h1, h2⟩ := h
  exact ⟨pc, (hb.block _ h1.lt).trans h1, (hb.block _ h2.lt).trans h2⟩
theorem ManyN.keep {K b c : Nat} {w w' : World} {cs : Array Value} (h : ManyN K b w) (hq : w.heap[c]? = some (.cells cs 120 (0, 0))) (he : ∀ i, i ≠ c → w'.heap[i]? = w.heap[i]?) : ManyN K b w' := by
  obtain ⟨pc, pr, pw, h1, h2, h3, h4⟩ := h
  exact ⟨pc, pr, pw, boxed_keep h1 hq (by decide) he, boxed_keep h2 hq (by decide) he, boxed_keep h3 hq (by decide) he, boxed_keep h4 hq (by decide) he⟩
theorem ManyC.keep {K b c : Nat} {w w' : World} {cs : Array Value} (h : ManyC K b w) (hq : w.heap[c]? = some (.cells cs 120 (0, 0))) (he : ∀ i, i ≠ c → w'.heap[i]? = w.heap[i]?) : ManyC K b w' := by
  obtain ⟨pc, h1, h2⟩ := h
  exact ⟨pc, boxed_keep h1 hq (by decide) he, boxed_keep h2 hq (by decide) he⟩
theorem overNumbers_any (K : Nat) (w : World) : Calls Tryz.prog 154 #[.func (.func K) #[] #[]] w fun e w' => ∃ pc pr pw, e = .returned (.func (.func 267) #[] #[.pointer (some ⟨pc, 0, none⟩), .pointer (some ⟨pr, 0, none⟩), .pointer (some ⟨pw, 0, none⟩)]) ∧ Boxed w' pc 147 (.func (.func 235) #[] #[]) ∧ Boxed w' pr 60 (.func (.func 106) #[] #[]) ∧ Boxed w' pw 178 (.func (.func K) #[] #[]) ∧ Below w.heap.size w w' := by
  go_enter Tryz.func154, Tryz.ntmps154
  go_wp2_with fail
  refine (over_make 235 106 K _).mono ?_
  rintro e w1 ⟨rfl, rfl⟩
  go_wp2_with fail
  go_ret
  have h1 := ((Boxed.new w 147 (.func (.func 235) #[] #[])).alloc (.cells #[.func (.func 106) #[] #[]] 60)).alloc (.cells #[.func (.func K) #[] #[]] 178)
  have h2 := (Boxed.new (w.alloc (.cells #[.func (.func 235) #[] #[]] 147)) 60 (.func (.func 106) #[] #[])).alloc (.cells #[.func (.func K) #[] #[]] 178)
  have h3 := Boxed.new ((w.alloc (.cells #[.func (.func 235) #[] #[]] 147)).alloc (.cells #[.func (.func 106) #[] #[]] 60)) 178 (.func (.func K) #[] #[])
  simp only [World.size_alloc] at h2 h3
  exact ⟨_, _, _, rfl, h1, h2, h3, (((Below.refl _ _).alloc (Nat.le_refl _) _).alloc (by simp) _).alloc (by simp; omega) _⟩
theorem howMany_any (K : Nat) (w : World) : Calls Tryz.prog 159 #[.func (.func K) #[] #[]] w fun e w' => ∃ pc, e = .returned (.func (.func 239) #[] #[.pointer (some ⟨pc, 0, none⟩)]) ∧ Boxed w' pc 180 (.func (.func K) #[] #[]) ∧ Below w.heap.size w w' := by
  go_enter Tryz.func159, Tryz.ntmps159
  go_wp2_with fail
  go_ret
  exact ⟨_, rfl, Boxed.new w 180 (.func (.func K) #[] #[]), (Below.refl _ _).alloc (Nat.le_refl _) _⟩
set_option maxHeartbeats 1600000 in
theorem ofMany_sum (w : World) : Calls Tryz.prog 113 #[.string ⟨#[83, 85, 77]⟩] w fun e w' => ∃ b, e = .returned (fnM b) ∧ ManyN 155 b w' ∧ Below w.heap.size w w' := by
  have HQ : Hid (∀ w1, Below (w.alloc (.cells #[.int .i64 0, .int .i64 0, .nilFunc] 120)).heap.size (w.alloc (.cells #[.int .i64 0, .int .i64 0, .nilFunc] 120)) w1 → w1.heap[w.heap.size]? = some (.cells #[.int .i64 0, .int .i64 0, .nilFunc] 120 (0, 0)) ∧ Below w.heap.size w w1) := fun w1 hb =>
    ⟨(hb.block w.heap.size (by simp)).trans (heap_alloc_new w _), bnext ((Below.refl w.heap.size w).alloc (Nat.le_refl _) (.cells #[.int .i64 0, .int .i64 0, .nilFunc] 120)) hb (by simp)⟩
  go_enter Tryz.func113, Tryz.ntmps113
  go_wp2_with fail
  refine (overNumbers_any 155 _).mono ?_
  rintro e w1 ⟨pc, pr, pw, rfl, h1, h2, h3, hb1⟩
  have HB1 : Hid (Below (w.alloc (.cells #[.int .i64 0, .int .i64 0, .nilFunc] 120)).heap.size (w.alloc (.cells #[.int .i64 0, .int .i64 0, .nilFunc] 120)) w1) := hb1
  have HX : Hid (Boxed w1 pc 147 (.func (.func 235) #[] #[]) ∧ Boxed w1 pr 60 (.func (.func 106) #[] #[]) ∧ Boxed w1 pw 178 (.func (.func 155) #[] #[])) := ⟨h1, h2, h3⟩
  clear h1 h2 h3 hb1
  go_wp2_with fail
  refine (takingMany_any _ _ _).mono ?_
  rintro e w2 ⟨rfl, h4, hb2⟩
  obtain ⟨g, hg⟩ : ∃ g, w1.heap.size = g := ⟨_, rfl⟩
  rw [hg] at h4 ⊢
  obtain ⟨hq, hb⟩ := HQ.out w2 (bnext HB1.out hb2 HB1.out.size)
  have HM : Hid (ManyN 155 g w2) := ⟨pc, pr, pw, h4, (hb2.block _ HX.out.1.lt).trans HX.out.1, (hb2.block _ HX.out.2.1.lt).trans HX.out.2.1, (hb2.block _ HX.out.2.2.lt).trans HX.out.2.2⟩
  have HB : Hid (Below w.heap.size w w2) := hb
  have HQ1 : Hid (w2.heap[w.heap.size]? = some (.cells #[.int .i64 0, .int .i64 0, .nilFunc] 120 (0, 0))) := hq
  obtain ⟨c0, c1, c2⟩ := cells3v hq
  have f0 := frz hq
  clear hq hb hb2 h4 HX HB1 HQ hg
  go_wp2_with fail
  refine fin3e HQ1.out (Q := bodyPost _ _ _ _ _) ?_
  clear c0 c1 c2 f0
  intro w3 hq3 hk3 he3
  obtain ⟨d0, d1, d2⟩ := cells3v hq3
  exact bodyPost_ret (v := fnM g) (by simp [results, Tryz.results113, go_sem, d0, d1, d2]) rfl ⟨g, rfl, HM.out.keep HQ1.out he3, HB.out.trans (hk3 _ (Nat.le_refl _))⟩
set_option maxRecDepth 8000 in
theorem functionOf_sum (w : World) :
    Calls Tryz.prog 83 #[.string ⟨#[83, 85, 77]⟩] w fun e w' => ∃ b, e = .returned (fnM b) ∧ ManyN 155 b w' ∧ Below w.heap.size w w' := by
  have H1 : Hid (∀ wx, Calls Tryz.prog 113 #[.string ⟨#[83, 85, 77]⟩] wx fun e w' => ∃ b, e = .returned (fnM b) ∧ ManyN 155 b w' ∧ Below wx.heap.size wx w') := ofMany_sum
  go_enter Tryz.func83, Tryz.ntmps83
  go_wp2_with fail
  refine wp_loop_rounds 1 ?_
  obtain ⟨w0, hW⟩ : ∃ W, W = (w.alloc (.cells #[.int .i64 0, .int .i64 0, .nilFunc] 120)).alloc (.cells #[.func (.func 113) #[] #[], .func (.func 114) #[] #[], .func (.func 115) #[] #[], .func (.func 116) #[] #[], .func (.func 117) #[] #[]] 150) := ⟨_, rfl⟩
  rw [← hW]
  have HW : Hid (w0 = (w.alloc (.cells #[.int .i64 0, .int .i64 0, .nilFunc] 120)).alloc (.cells #[.func (.func 113) #[] #[], .func (.func 114) #[] #[], .func (.func 115) #[] #[], .func (.func 116) #[] #[], .func (.func 117) #[] #[]] 150)) := hW
  clear hW
  have B0 : Hid (Below w0.heap.size w0 w0) := Below.refl _ _
  refine rounds_step ?_
  intro K HK
  have i0 := ix0 w0
  go_wp2_with fail
  refine (H1.out _).mono ?_
  rintro e y3 ⟨b, rfl, ht, b4⟩
  clear i0 HK
  have C4 : Below w0.heap.size w0 y3 := bnext B0.out b4 B0.out.size
  have hq1 : y3.heap[w.heap.size]? = some (.cells #[.int .i64 0, .int .i64 0, .nilFunc] 120 (0, 0)) := by
    rw [C4.block _ (by rw [HW.out]; simp; omega), HW.out]
    exact (((Below.refl (w.heap.size + 1) _).alloc (by simp) _).block w.heap.size (by omega)).trans (heap_alloc_new w _)
  have B5 : Hid (Below w.heap.size w y3) := bnext (show Below w.heap.size w w0 by rw [HW.out]; exact ((Below.refl _ _).alloc (Nat.le_refl _) _).alloc (by simp) _) C4 (by rw [HW.out]; simp; omega)
  have hlt : w.heap.size < y3.heap.size := fm.lt_blk hq1
  have HTk : Hid (ManyN 155 b y3) := ht
  clear C4 b4 B0 HW ht
  obtain ⟨y4, h4⟩ : ∃ W, W = y3.alloc (.cells #[.int .i64 1, .int .i64 200, .func (.func 233) #[] #[.pointer (some ⟨b, 0, none⟩)]] 120) := ⟨_, rfl⟩
  have n3 := ne_fnK 233 #[.pointer (some ⟨b, 0, none⟩)] y4
  rw [h4] at n3
  have hq4 : y4.heap[w.heap.size]? = some (.cells #[.int .i64 0, .int .i64 0, .nilFunc] 120 (0, 0)) := by
    rw [h4]; exact (((Below.refl y3.heap.size y3).alloc (Nat.le_refl _) _).block _ hlt).trans hq1
  have HQ1 : Hid (y4.heap[w.heap.size]? = some (.cells #[.int .i64 0, .int .i64 0, .nilFunc] 120 (0, 0))) := hq4
  have B6 : Hid (Below w.heap.size w y4) := by rw [h4]; exact B5.out.alloc (Nat.le_of_lt hlt) _
  have HT4 : Hid (ManyN 155 b y4) := by rw [h4]; exact HTk.out.below ((Below.refl _ _).alloc (Nat.le_refl _) _)
  obtain ⟨c0, c1, c2⟩ := cells3v hq4
  have f0 := frz hq4
  have H44 : Hid (y3.alloc (.cells #[.int .i64 1, .int .i64 200, .func (.func 233) #[] #[.pointer (some ⟨b, 0, none⟩)]] 120) = y4) := h4.symm
  rw [h4] at c0 c1 c2 f0
  clear hq4 hq1 hlt h4
  go_wp2_with fail
  rw [H44.out] at *
  refine fin3e HQ1.out (Q := bodyPost _ _ _ _ _) ?_
  clear c0 c1 c2 f0
  intro w2 hq2 hk2 he2
  obtain ⟨d0, d1, d2⟩ := cells3v hq2
  exact bodyPost_ret (v := fnM b) (by simp [results, Tryz.results83, go_sem, d0, d1, d2]) rfl ⟨b, rfl, HT4.out.keep HQ1.out he2, B6.out.trans (hk2 _ (Nat.le_refl _))⟩
set_option maxHeartbeats 1600000 in
theorem ofMany_min (w : World) : Calls Tryz.prog 113 #[.string ⟨#[77, 73, 78]⟩] w fun e w' => ∃ b, e = .returned (fnM b) ∧ ManyN 156 b w' ∧ Below w.heap.size w w' := by
  have HQ : Hid (∀ w1, Below (w.alloc (.cells #[.int .i64 0, .int .i64 0, .nilFunc] 120)).heap.size (w.alloc (.cells #[.int .i64 0, .int .i64 0, .nilFunc] 120)) w1 → w1.heap[w.heap.size]? = some (.cells #[.int .i64 0, .int .i64 0, .nilFunc] 120 (0, 0)) ∧ Below w.heap.size w w1) := fun w1 hb =>
    ⟨(hb.block w.heap.size (by simp)).trans (heap_alloc_new w _), bnext ((Below.refl w.heap.size w).alloc (Nat.le_refl _) (.cells #[.int .i64 0, .int .i64 0, .nilFunc] 120)) hb (by simp)⟩
  go_enter Tryz.func113, Tryz.ntmps113
  go_wp2_with fail
  refine (overNumbers_any 156 _).mono ?_
  rintro e w1 ⟨pc, pr, pw, rfl, h1, h2, h3, hb1⟩
  have HB1 : Hid (Below (w.alloc (.cells #[.int .i64 0, .int .i64 0, .nilFunc] 120)).heap.size (w.alloc (.cells #[.int .i64 0, .int .i64 0, .nilFunc] 120)) w1) := hb1
  have HX : Hid (Boxed w1 pc 147 (.func (.func 235) #[] #[]) ∧ Boxed w1 pr 60 (.func (.func 106) #[] #[]) ∧ Boxed w1 pw 178 (.func (.func 156) #[] #[])) := ⟨h1, h2, h3⟩
  clear h1 h2 h3 hb1
  go_wp2_with fail
  refine (takingMany_any _ _ _).mono ?_
  rintro e w2 ⟨rfl, h4, hb2⟩
  obtain ⟨g, hg⟩ : ∃ g, w1.heap.size = g := ⟨_, rfl⟩
  rw [hg] at h4 ⊢
  obtain ⟨hq, hb⟩ := HQ.out w2 (bnext HB1.out hb2 HB1.out.size)
  have HM : Hid (ManyN 156 g w2) := ⟨pc, pr, pw, h4, (hb2.block _ HX.out.1.lt).trans HX.out.1, (hb2.block _ HX.out.2.1.lt).trans HX.out.2.1, (hb2.block _ HX.out.2.2.lt).trans HX.out.2.2⟩
  have HB : Hid (Below w.heap.size w w2) := hb
  have HQ1 : Hid (w2.heap[w.heap.size]? = some (.cells #[.int .i64 0, .int .i64 0, .nilFunc] 120 (0, 0))) := hq
  obtain ⟨c0, c1, c2⟩ := cells3v hq
  have f0 := frz hq
  clear hq hb hb2 h4 HX HB1 HQ hg
  go_wp2_with fail
  refine fin3e HQ1.out (Q := bodyPost _ _ _ _ _) ?_
  clear c0 c1 c2 f0
  intro w3 hq3 hk3 he3
  obtain ⟨d0, d1, d2⟩ := cells3v hq3
  exact bodyPost_ret (v := fnM g) (by simp [results, Tryz.results113, go_sem, d0, d1, d2]) rfl ⟨g, rfl, HM.out.keep HQ1.out he3, HB.out.trans (hk3 _ (Nat.le_refl _))⟩
set_option maxRecDepth 8000 in
theorem functionOf_min (w : World) :
    Calls Tryz.prog 83 #[.string ⟨#[77, 73, 78]⟩] w fun e w' => ∃ b, e = .returned (fnM b) ∧ ManyN 156 b w' ∧ Below w.heap.size w w' := by
  have H1 : Hid (∀ wx, Calls Tryz.prog 113 #[.string ⟨#[77, 73, 78]⟩] wx fun e w' => ∃ b, e = .returned (fnM b) ∧ ManyN 156 b w' ∧ Below wx.heap.size wx w') := ofMany_min
  go_enter Tryz.func83, Tryz.ntmps83
  go_wp2_with fail
  refine wp_loop_rounds 1 ?_
  obtain ⟨w0, hW⟩ : ∃ W, W = (w.alloc (.cells #[.int .i64 0, .int .i64 0, .nilFunc] 120)).alloc (.cells #[.func (.func 113) #[] #[], .func (.func 114) #[] #[], .func (.func 115) #[] #[], .func (.func 116) #[] #[], .func (.func 117) #[] #[]] 150) := ⟨_, rfl⟩
  rw [← hW]
  have HW : Hid (w0 = (w.alloc (.cells #[.int .i64 0, .int .i64 0, .nilFunc] 120)).alloc (.cells #[.func (.func 113) #[] #[], .func (.func 114) #[] #[], .func (.func 115) #[] #[], .func (.func 116) #[] #[], .func (.func 117) #[] #[]] 150)) := hW
  clear hW
  have B0 : Hid (Below w0.heap.size w0 w0) := Below.refl _ _
  refine rounds_step ?_
  intro K HK
  have i0 := ix0 w0
  go_wp2_with fail
  refine (H1.out _).mono ?_
  rintro e y3 ⟨b, rfl, ht, b4⟩
  clear i0 HK
  have C4 : Below w0.heap.size w0 y3 := bnext B0.out b4 B0.out.size
  have hq1 : y3.heap[w.heap.size]? = some (.cells #[.int .i64 0, .int .i64 0, .nilFunc] 120 (0, 0)) := by
    rw [C4.block _ (by rw [HW.out]; simp; omega), HW.out]
    exact (((Below.refl (w.heap.size + 1) _).alloc (by simp) _).block w.heap.size (by omega)).trans (heap_alloc_new w _)
  have B5 : Hid (Below w.heap.size w y3) := bnext (show Below w.heap.size w w0 by rw [HW.out]; exact ((Below.refl _ _).alloc (Nat.le_refl _) _).alloc (by simp) _) C4 (by rw [HW.out]; simp; omega)
  have hlt : w.heap.size < y3.heap.size := fm.lt_blk hq1
  have HTk : Hid (ManyN 156 b y3) := ht
  clear C4 b4 B0 HW ht
  obtain ⟨y4, h4⟩ : ∃ W, W = y3.alloc (.cells #[.int .i64 1, .int .i64 200, .func (.func 233) #[] #[.pointer (some ⟨b, 0, none⟩)]] 120) := ⟨_, rfl⟩
  have n3 := ne_fnK 233 #[.pointer (some ⟨b, 0, none⟩)] y4
  rw [h4] at n3
  have hq4 : y4.heap[w.heap.size]? = some (.cells #[.int .i64 0, .int .i64 0, .nilFunc] 120 (0, 0)) := by
    rw [h4]; exact (((Below.refl y3.heap.size y3).alloc (Nat.le_refl _) _).block _ hlt).trans hq1
  have HQ1 : Hid (y4.heap[w.heap.size]? = some (.cells #[.int .i64 0, .int .i64 0, .nilFunc] 120 (0, 0))) := hq4
  have B6 : Hid (Below w.heap.size w y4) := by rw [h4]; exact B5.out.alloc (Nat.le_of_lt hlt) _
  have HT4 : Hid (ManyN 156 b y4) := by rw [h4]; exact HTk.out.below ((Below.refl _ _).alloc (Nat.le_refl _) _)
  obtain ⟨c0, c1, c2⟩ := cells3v hq4
  have f0 := frz hq4
  have H44 : Hid (y3.alloc (.cells #[.int .i64 1, .int .i64 200, .func (.func 233) #[] #[.pointer (some ⟨b, 0, none⟩)]] 120) = y4) := h4.symm
  rw [h4] at c0 c1 c2 f0
  clear hq4 hq1 hlt h4
  go_wp2_with fail
  rw [H44.out] at *
  refine fin3e HQ1.out (Q := bodyPost _ _ _ _ _) ?_
  clear c0 c1 c2 f0
  intro w2 hq2 hk2 he2
  obtain ⟨d0, d1, d2⟩ := cells3v hq2
  exact bodyPost_ret (v := fnM b) (by simp [results, Tryz.results83, go_sem, d0, d1, d2]) rfl ⟨b, rfl, HT4.out.keep HQ1.out he2, B6.out.trans (hk2 _ (Nat.le_refl _))⟩
set_option maxHeartbeats 1600000 in
theorem ofMany_max (w : World) : Calls Tryz.prog 113 #[.string ⟨#[77, 65, 88]⟩] w fun e w' => ∃ b, e = .returned (fnM b) ∧ ManyN 157 b w' ∧ Below w.heap.size w w' := by
  have HQ : Hid (∀ w1, Below (w.alloc (.cells #[.int .i64 0, .int .i64 0, .nilFunc] 120)).heap.size (w.alloc (.cells #[.int .i64 0, .int .i64 0, .nilFunc] 120)) w1 → w1.heap[w.heap.size]? = some (.cells #[.int .i64 0, .int .i64 0, .nilFunc] 120 (0, 0)) ∧ Below w.heap.size w w1) := fun w1 hb =>
    ⟨(hb.block w.heap.size (by simp)).trans (heap_alloc_new w _), bnext ((Below.refl w.heap.size w).alloc (Nat.le_refl _) (.cells #[.int .i64 0, .int .i64 0, .nilFunc] 120)) hb (by simp)⟩
  go_enter Tryz.func113, Tryz.ntmps113
  go_wp2_with fail
  refine (overNumbers_any 157 _).mono ?_
  rintro e w1 ⟨pc, pr, pw, rfl, h1, h2, h3, hb1⟩
  have HB1 : Hid (Below (w.alloc (.cells #[.int .i64 0, .int .i64 0, .nilFunc] 120)).heap.size (w.alloc (.cells #[.int .i64 0, .int .i64 0, .nilFunc] 120)) w1) := hb1
  have HX : Hid (Boxed w1 pc 147 (.func (.func 235) #[] #[]) ∧ Boxed w1 pr 60 (.func (.func 106) #[] #[]) ∧ Boxed w1 pw 178 (.func (.func 157) #[] #[])) := ⟨h1, h2, h3⟩
  clear h1 h2 h3 hb1
  go_wp2_with fail
  refine (takingMany_any _ _ _).mono ?_
  rintro e w2 ⟨rfl, h4, hb2⟩
  obtain ⟨g, hg⟩ : ∃ g, w1.heap.size = g := ⟨_, rfl⟩
  rw [hg] at h4 ⊢
  obtain ⟨hq, hb⟩ := HQ.out w2 (bnext HB1.out hb2 HB1.out.size)
  have HM : Hid (ManyN 157 g w2) := ⟨pc, pr, pw, h4, (hb2.block _ HX.out.1.lt).trans HX.out.1, (hb2.block _ HX.out.2.1.lt).trans HX.out.2.1, (hb2.block _ HX.out.2.2.lt).trans HX.out.2.2⟩
  have HB : Hid (Below w.heap.size w w2) := hb
  have HQ1 : Hid (w2.heap[w.heap.size]? = some (.cells #[.int .i64 0, .int .i64 0, .nilFunc] 120 (0, 0))) := hq
  obtain ⟨c0, c1, c2⟩ := cells3v hq
  have f0 := frz hq
  clear hq hb hb2 h4 HX HB1 HQ hg
  go_wp2_with fail
  refine fin3e HQ1.out (Q := bodyPost _ _ _ _ _) ?_
  clear c0 c1 c2 f0
  intro w3 hq3 hk3 he3
  obtain ⟨d0, d1, d2⟩ := cells3v hq3
  exact bodyPost_ret (v := fnM g) (by simp [results, Tryz.results113, go_sem, d0, d1, d2]) rfl ⟨g, rfl, HM.out.keep HQ1.out he3, HB.out.trans (hk3 _ (Nat.le_refl _))⟩
set_option maxRecDepth 8000 in
theorem functionOf_max (w : World) :
    Calls Tryz.prog 83 #[.string ⟨#[77, 65, 88]⟩] w fun e w' => ∃ b, e = .returned (fnM b) ∧ ManyN 157 b w' ∧ Below w.heap.size w w' := by
  have H1 : Hid (∀ wx, Calls Tryz.prog 113 #[.string ⟨#[77, 65, 88]⟩] wx fun e w' => ∃ b, e = .returned (fnM b) ∧ ManyN 157 b w' ∧ Below wx.heap.size wx w') := ofMany_max
  go_enter Tryz.func83, Tryz.ntmps83
  go_wp2_with fail
  refine wp_loop_rounds 1 ?_
  obtain ⟨w0, hW⟩ : ∃ W, W = (w.alloc (.cells #[.int .i64 0, .int .i64 0, .nilFunc] 120)).alloc (.cells #[.func (.func 113) #[] #[], .func (.func 114) #[] #[], .func (.func 115) #[] #[], .func (.func 116) #[] #[], .func (.func 117) #[] #[]] 150) := ⟨_, rfl⟩
  rw [← hW]
  have HW : Hid (w0 = (w.alloc (.cells #[.int .i64 0, .int .i64 0, .nilFunc] 120)).alloc (.cells #[.func (.func 113) #[] #[], .func (.func 114) #[] #[], .func (.func 115) #[] #[], .func (.func 116) #[] #[], .func (.func 117) #[] #[]] 150)) := hW
  clear hW
  have B0 : Hid (Below w0.heap.size w0 w0) := Below.refl _ _
  refine rounds_step ?_
  intro K HK
  have i0 := ix0 w0
  go_wp2_with fail
  refine (H1.out _).mono ?_
  rintro e y3 ⟨b, rfl, ht, b4⟩
  clear i0 HK
  have C4 : Below w0.heap.size w0 y3 := bnext B0.out b4 B0.out.size
  have hq1 : y3.heap[w.heap.size]? = some (.cells #[.int .i64 0, .int .i64 0, .nilFunc] 120 (0, 0)) := by
    rw [C4.block _ (by rw [HW.out]; simp; omega), HW.out]
    exact (((Below.refl (w.heap.size + 1) _).alloc (by simp) _).block w.heap.size (by omega)).trans (heap_alloc_new w _)
  have B5 : Hid (Below w.heap.size w y3) := bnext (show Below w.heap.size w w0 by rw [HW.out]; exact ((Below.refl _ _).alloc (Nat.le_refl _) _).alloc (by simp) _) C4 (by rw [HW.out]; simp; omega)
  have hlt : w.heap.size < y3.heap.size := fm.lt_blk hq1
  have HTk : Hid (ManyN 157 b y3) := ht
  clear C4 b4 B0 HW ht
  obtain ⟨y4, h4⟩ : ∃ W, W = y3.alloc (.cells #[.int .i64 1, .int .i64 200, .func (.func 233) #[] #[.pointer (some ⟨b, 0, none⟩)]] 120) := ⟨_, rfl⟩
  have n3 := ne_fnK 233 #[.pointer (some ⟨b, 0, none⟩)] y4
  rw [h4] at n3
  have hq4 : y4.heap[w.heap.size]? = some (.cells #[.int .i64 0, .int .i64 0, .nilFunc] 120 (0, 0)) := by
    rw [h4]; exact (((Below.refl y3.heap.size y3).alloc (Nat.le_refl _) _).block _ hlt).trans hq1
  have HQ1 : Hid (y4.heap[w.heap.size]? = some (.cells #[.int .i64 0, .int .i64 0, .nilFunc] 120 (0, 0))) := hq4
  have B6 : Hid (Below w.heap.size w y4) := by rw [h4]; exact B5.out.alloc (Nat.le_of_lt hlt) _
  have HT4 : Hid (ManyN 157 b y4) := by rw [h4]; exact HTk.out.below ((Below.refl _ _).alloc (Nat.le_refl _) _)
  obtain ⟨c0, c1, c2⟩ := cells3v hq4
  have f0 := frz hq4
  have H44 : Hid (y3.alloc (.cells #[.int .i64 1, .int .i64 200, .func (.func 233) #[] #[.pointer (some ⟨b, 0, none⟩)]] 120) = y4) := h4.symm
  rw [h4] at c0 c1 c2 f0
  clear hq4 hq1 hlt h4
  go_wp2_with fail
  rw [H44.out] at *
  refine fin3e HQ1.out (Q := bodyPost _ _ _ _ _) ?_
  clear c0 c1 c2 f0
  intro w2 hq2 hk2 he2
  obtain ⟨d0, d1, d2⟩ := cells3v hq2
  exact bodyPost_ret (v := fnM b) (by simp [results, Tryz.results83, go_sem, d0, d1, d2]) rfl ⟨b, rfl, HT4.out.keep HQ1.out he2, B6.out.trans (hk2 _ (Nat.le_refl _))⟩
set_option maxHeartbeats 1600000 in
theorem ofMany_count (w : World) : Calls Tryz.prog 113 #[.string ⟨#[67, 79, 85, 78, 84]⟩] w fun e w' => ∃ b, e = .returned (fnM b) ∧ ManyC 160 b w' ∧ Below w.heap.size w w' := by
  have HQ : Hid (∀ w1, Below (w.alloc (.cells #[.int .i64 0, .int .i64 0, .nilFunc] 120)).heap.size (w.alloc (.cells #[.int .i64 0, .int .i64 0, .nilFunc] 120)) w1 → w1.heap[w.heap.size]? = some (.cells #[.int .i64 0, .int .i64 0, .nilFunc] 120 (0, 0)) ∧ Below w.heap.size w w1) := fun w1 hb =>
    ⟨(hb.block w.heap.size (by simp)).trans (heap_alloc_new w _), bnext ((Below.refl w.heap.size w).alloc (Nat.le_refl _) (.cells #[.int .i64 0, .int .i64 0, .nilFunc] 120)) hb (by simp)⟩
  go_enter Tryz.func113, Tryz.ntmps113
  go_wp2_with fail
  refine (howMany_any 160 _).mono ?_
  rintro e w1 ⟨pc, rfl, h1, hb1⟩
  have HB1 : Hid (Below (w.alloc (.cells #[.int .i64 0, .int .i64 0, .nilFunc] 120)).heap.size (w.alloc (.cells #[.int .i64 0, .int .i64 0, .nilFunc] 120)) w1) := hb1
  have HX : Hid (Boxed w1 pc 180 (.func (.func 160) #[] #[])) := h1
  clear h1 hb1
  go_wp2_with fail
  refine (takingMany_any _ _ _).mono ?_
  rintro e w2 ⟨rfl, h4, hb2⟩
  obtain ⟨g, hg⟩ : ∃ g, w1.heap.size = g := ⟨_, rfl⟩
  rw [hg] at h4 ⊢
  obtain ⟨hq, hb⟩ := HQ.out w2 (bnext HB1.out hb2 HB1.out.size)
  have HM : Hid (ManyC 160 g w2) := ⟨pc, h4, (hb2.block _ HX.out.lt).trans HX.out⟩
  have HB : Hid (Below w.heap.size w w2) := hb
  have HQ1 : Hid (w2.heap[w.heap.size]? = some (.cells #[.int .i64 0, .int .i64 0, .nilFunc] 120 (0, 0))) := hq
  obtain ⟨c0, c1, c2⟩ := cells3v hq
  have f0 := frz hq
  clear hq hb hb2 h4 HX HB1 HQ hg
  go_wp2_with fail
  refine fin3e HQ1.out (Q := bodyPost _ _ _ _ _) ?_
  clear c0 c1 c2 f0
  intro w3 hq3 hk3 he3
  obtain ⟨d0, d1, d2⟩ := cells3v hq3
  exact bodyPost_ret (v := fnM g) (by simp [results, Tryz.results113, go_sem, d0, d1, d2]) rfl ⟨g, rfl, HM.out.keep HQ1.out he3, HB.out.trans (hk3 _ (Nat.le_refl _))⟩
set_option maxRecDepth 8000 in
theorem functionOf_count (w : World) :
    Calls Tryz.prog 83 #[.string ⟨#[67, 79, 85, 78, 84]⟩] w fun e w' => ∃ b, e = .returned (fnM b) ∧ ManyC 160 b w' ∧ Below w.heap.size w w' := by
  have H1 : Hid (∀ wx, Calls Tryz.prog 113 #[.string ⟨#[67, 79, 85, 78, 84]⟩] wx fun e w' => ∃ b, e = .returned (fnM b) ∧ ManyC 160 b w' ∧ Below wx.heap.size wx w') := ofMany_count
  go_enter Tryz.func83, Tryz.ntmps83
  go_wp2_with fail
  refine wp_loop_rounds 1 ?_
  obtain ⟨w0, hW⟩ : ∃ W, W = (w.alloc (.cells #[.int .i64 0, .int .i64 0, .nilFunc] 120)).alloc (.cells #[.func (.func 113) #[] #[], .func (.func 114) #[] #[], .func (.func 115) #[] #[], .func (.func 116) #[] #[], .func (.func 117) #[] #[]] 150) := ⟨_, rfl⟩
  rw [← hW]
  have HW : Hid (w0 = (w.alloc (.cells #[.int .i64 0, .int .i64 0, .nilFunc] 120)).alloc (.cells #[.func (.func 113) #[] #[], .func (.func 114) #[] #[], .func (.func 115) #[] #[], .func (.func 116) #[] #[], .func (.func 117) #[] #[]] 150)) := hW
  clear hW
  have B0 : Hid (Below w0.heap.size w0 w0) := Below.refl _ _
  refine rounds_step ?_
  intro K HK
  have i0 := ix0 w0
  go_wp2_with fail
  refine (H1.out _).mono ?_
  rintro e y3 ⟨b, rfl, ht, b4⟩
  clear i0 HK
  have C4 : Below w0.heap.size w0 y3 := bnext B0.out b4 B0.out.size
  have hq1 : y3.heap[w.heap.size]? = some (.cells #[.int .i64 0, .int .i64 0, .nilFunc] 120 (0, 0)) := by
    rw [C4.block _ (by rw [HW.out]; simp; omega), HW.out]
    exact (((Below.refl (w.heap.size + 1) _).alloc (by simp) _).block w.heap.size (by omega)).trans (heap_alloc_new w _)
  have B5 : Hid (Below w.heap.size w y3) := bnext (show Below w.heap.size w w0 by rw [HW.out]; exact ((Below.refl _ _).alloc (Nat.le_refl _) _).alloc (by simp) _) C4 (by rw [HW.out]; simp; omega)
  have hlt : w.heap.size < y3.heap.size := fm.lt_blk hq1
  have HTk : Hid (ManyC 160 b y3) := ht
  clear C4 b4 B0 HW ht
  obtain ⟨y4, h4⟩ : ∃ W, W = y3.alloc (.cells #[.int .i64 1, .int .i64 200, .func (.func 233) #[] #[.pointer (some ⟨b, 0, none⟩)]] 120) := ⟨_, rfl⟩
  have n3 := ne_fnK 233 #[.pointer (some ⟨b, 0, none⟩)] y4
  rw [h4] at n3
  have hq4 : y4.heap[w.heap.size]? = some (.cells #[.int .i64 0, .int .i64 0, .nilFunc] 120 (0, 0)) := by
    rw [h4]; exact (((Below.refl y3.heap.size y3).alloc (Nat.le_refl _) _).block _ hlt).trans hq1
  have HQ1 : Hid (y4.heap[w.heap.size]? = some (.cells #[.int .i64 0, .int .i64 0, .nilFunc] 120 (0, 0))) := hq4
  have B6 : Hid (Below w.heap.size w y4) := by rw [h4]; exact B5.out.alloc (Nat.le_of_lt hlt) _
  have HT4 : Hid (ManyC 160 b y4) := by rw [h4]; exact HTk.out.below ((Below.refl _ _).alloc (Nat.le_refl _) _)
  obtain ⟨c0, c1, c2⟩ := cells3v hq4
  have f0 := frz hq4
  have H44 : Hid (y3.alloc (.cells #[.int .i64 1, .int .i64 200, .func (.func 233) #[] #[.pointer (some ⟨b, 0, none⟩)]] 120) = y4) := h4.symm
  rw [h4] at c0 c1 c2 f0
  clear hq4 hq1 hlt h4
  go_wp2_with fail
  rw [H44.out] at *
  refine fin3e HQ1.out (Q := bodyPost _ _ _ _ _) ?_
  clear c0 c1 c2 f0
  intro w2 hq2 hk2 he2
  obtain ⟨d0, d1, d2⟩ := cells3v hq2
  exact bodyPost_ret (v := fnM b) (by simp [results, Tryz.results83, go_sem, d0, d1, d2]) rfl ⟨b, rfl, HT4.out.keep HQ1.out he2, B6.out.trans (hk2 _ (Nat.le_refl _))⟩
set_option maxHeartbeats 1600000 in
theorem ofMany_counta (w : World) : Calls Tryz.prog 113 #[.string ⟨#[67, 79, 85, 78, 84, 65]⟩] w fun e w' => ∃ b, e = .returned (fnM b) ∧ ManyC 161 b w' ∧ Below w.heap.size w w' := by
  have HQ : Hid (∀ w1, Below (w.alloc (.cells #[.int .i64 0, .int .i64 0, .nilFunc] 120)).heap.size (w.alloc (.cells #[.int .i64 0, .int .i64 0, .nilFunc] 120)) w1 → w1.heap[w.heap.size]? = some (.cells #[.int .i64 0, .int .i64 0, .nilFunc] 120 (0, 0)) ∧ Below w.heap.size w w1) := fun w1 hb =>
    ⟨(hb.block w.heap.size (by simp)).trans (heap_alloc_new w _), bnext ((Below.refl w.heap.size w).alloc (Nat.le_refl _) (.cells #[.int .i64 0, .int .i64 0, .nilFunc] 120)) hb (by simp)⟩
  go_enter Tryz.func113, Tryz.ntmps113
  go_wp2_with fail
  refine (howMany_any 161 _).mono ?_
  rintro e w1 ⟨pc, rfl, h1, hb1⟩
  have HB1 : Hid (Below (w.alloc (.cells #[.int .i64 0, .int .i64 0, .nilFunc] 120)).heap.size (w.alloc (.cells #[.int .i64 0, .int .i64 0, .nilFunc] 120)) w1) := hb1
  have HX : Hid (Boxed w1 pc 180 (.func (.func 161) #[] #[])) := h1
  clear h1 hb1
  go_wp2_with fail
  refine (takingMany_any _ _ _).mono ?_
  rintro e w2 ⟨rfl, h4, hb2⟩
  obtain ⟨g, hg⟩ : ∃ g, w1.heap.size = g := ⟨_, rfl⟩
  rw [hg] at h4 ⊢
  obtain ⟨hq, hb⟩ := HQ.out w2 (bnext HB1.out hb2 HB1.out.size)
  have HM : Hid (ManyC 161 g w2) := ⟨pc, h4, (hb2.block _ HX.out.lt).trans HX.out⟩
  have HB : Hid (Below w.heap.size w w2) := hb
  have HQ1 : Hid (w2.heap[w.heap.size]? = some (.cells #[.int .i64 0, .int .i64 0, .nilFunc] 120 (0, 0))) := hq
  obtain ⟨c0, c1, c2⟩ := cells3v hq
  have f0 := frz hq
  clear hq hb hb2 h4 HX HB1 HQ hg
  go_wp2_with fail
  refine fin3e HQ1.out (Q := bodyPost _ _ _ _ _) ?_
  clear c0 c1 c2 f0
  intro w3 hq3 hk3 he3
  obtain ⟨d0, d1, d2⟩ := cells3v hq3
  exact bodyPost_ret (v := fnM g) (by simp [results, Tryz.results113, go_sem, d0, d1, d2]) rfl ⟨g, rfl, HM.out.keep HQ1.out he3, HB.out.trans (hk3 _ (Nat.le_refl _))⟩
set_option maxRecDepth 8000 in
theorem functionOf_counta (w : World) :
    Calls Tryz.prog 83 #[.string ⟨#[67, 79, 85, 78, 84, 65]⟩] w fun e w' => ∃ b, e = .returned (fnM b) ∧ ManyC 161 b w' ∧ Below w.heap.size w w' := by
  have H1 : Hid (∀ wx, Calls Tryz.prog 113 #[.string ⟨#[67, 79, 85, 78, 84, 65]⟩] wx fun e w' => ∃ b, e = .returned (fnM b) ∧ ManyC 161 b w' ∧ Below wx.heap.size wx w') := ofMany_counta
  go_enter Tryz.func83, Tryz.ntmps83
  go_wp2_with fail
  refine wp_loop_rounds 1 ?_
  obtain ⟨w0, hW⟩ : ∃ W, W = (w.alloc (.cells #[.int .i64 0, .int .i64 0, .nilFunc] 120)).alloc (.cells #[.func (.func 113) #[] #[], .func (.func 114) #[] #[], .func (.func 115) #[] #[], .func (.func 116) #[] #[], .func (.func 117) #[] #[]] 150) := ⟨_, rfl⟩
  rw [← hW]
  have HW : Hid (w0 = (w.alloc (.cells #[.int .i64 0, .int .i64 0, .nilFunc] 120)).alloc (.cells #[.func (.func 113) #[] #[], .func (.func 114) #[] #[], .func (.func 115) #[] #[], .func (.func 116) #[] #[], .func (.func 117) #[] #[]] 150)) := hW
  clear hW
  have B0 : Hid (Below w0.heap.size w0 w0) := Below.refl _ _
  refine rounds_step ?_
  intro K HK
  have i0 := ix0 w0
  go_wp2_with fail
  refine (H1.out _).mono ?_
  rintro e y3 ⟨b, rfl, ht, b4⟩
  clear i0 HK
  have C4 : Below w0.heap.size w0 y3 := bnext B0.out b4 B0.out.size
  have hq1 : y3.heap[w.heap.size]? = some (.cells #[.int .i64 0, .int .i64 0, .nilFunc] 120 (0, 0)) := by
    rw [C4.block _ (by rw [HW.out]; simp; omega), HW.out]
    exact (((Below.refl (w.heap.size + 1) _).alloc (by simp) _).block w.heap.size (by omega)).trans (heap_alloc_new w _)
  have B5 : Hid (Below w.heap.size w y3) := bnext (show Below w.heap.size w w0 by rw [HW.out]; exact ((Below.refl _ _).alloc (Nat.le_refl _) _).alloc (by simp) _) C4 (by rw [HW.out]; simp; omega)
  have hlt : w.heap.size < y3.heap.size := fm.lt_blk hq1
  have HTk : Hid (ManyC 161 b y3) := ht
  clear C4 b4 B0 HW ht
  obtain ⟨y4, h4⟩ : ∃ W, W = y3.alloc (.cells #[.int .i64 1, .int .i64 200, .func (.func 233) #[] #[.pointer (some ⟨b, 0, none⟩)]] 120) := ⟨_, rfl⟩
  have n3 := ne_fnK 233 #[.pointer (some ⟨b, 0, none⟩)] y4
  rw [h4] at n3
  have hq4 : y4.heap[w.heap.size]? = some (.cells #[.int .i64 0, .int .i64 0, .nilFunc] 120 (0, 0)) := by
    rw [h4]; exact (((Below.refl y3.heap.size y3).alloc (Nat.le_refl _) _).block _ hlt).trans hq1
  have HQ1 : Hid (y4.heap[w.heap.size]? = some (.cells #[.int .i64 0, .int .i64 0, .nilFunc] 120 (0, 0))) := hq4
  have B6 : Hid (Below w.heap.size w y4) := by rw [h4]; exact B5.out.alloc (Nat.le_of_lt hlt) _
  have HT4 : Hid (ManyC 161 b y4) := by rw [h4]; exact HTk.out.below ((Below.refl _ _).alloc (Nat.le_refl _) _)
  obtain ⟨c0, c1, c2⟩ := cells3v hq4
  have f0 := frz hq4
  have H44 : Hid (y3.alloc (.cells #[.int .i64 1, .int .i64 200, .func (.func 233) #[] #[.pointer (some ⟨b, 0, none⟩)]] 120) = y4) := h4.symm
  rw [h4] at c0 c1 c2 f0
  clear hq4 hq1 hlt h4
  go_wp2_with fail
  rw [H44.out] at *
  refine fin3e HQ1.out (Q := bodyPost _ _ _ _ _) ?_
  clear c0 c1 c2 f0
  intro w2 hq2 hk2 he2
  obtain ⟨d0, d1, d2⟩ := cells3v hq2
  exact bodyPost_ret (v := fnM b) (by simp [results, Tryz.results83, go_sem, d0, d1, d2]) rfl ⟨b, rfl, HT4.out.keep HQ1.out he2, B6.out.trans (hk2 _ (Nat.le_refl _))⟩
set_option maxRecDepth 100000 in
set_option maxHeartbeats 1600000 in
theorem call_manyP (mb : Option Nat) (nm : ByteArray) (pk : Option Addr) (q : Nat) (hq1 : (1 : Int) ≤ (q : Int)) (hq2 : (q : Int) ≤ 200) (Pm : Nat → World → Prop) (hP : Hid (∀ b w w', Pm b w → Below w.heap.size w w' → Pm b w')) (c : Nat) (r : V3) (w : World)
    (HF : Hid (∀ wx, Calls Tryz.prog 83 #[.string nm] wx fun e w' => ∃ b, e = .returned (fnM b) ∧ Pm b w' ∧ Below wx.heap.size wx w'))
    (HX : Hid (∀ (b : Nat) wx, Pm b wx → Below w.heap.size w wx → Calls Tryz.prog 233 #[.agg #[.map mb, .slice pk q c], .pointer (some ⟨b, 0, none⟩)] wx fun e w' => e = .returned (VV r.k r.n r.s) ∧ Below wx.heap.size wx w')) :
    Calls Tryz.prog 50 #[.map mb, fm.NV 9 0 nm .z .z (.slice pk q c)] w fun e w' => e = .returned (VV r.k r.n r.s) ∧ Below w.heap.size w w' := by
  obtain ⟨W, hW⟩ : ∃ W, W = (w.alloc (.cells (fm.N12 9 0 nm .z .z (.slice pk q c)) 28)).alloc (.cells #[.int .i64 0, .int .i64 0, .string nul] 31) := ⟨_, rfl⟩
  have hbW : Below w.heap.size w W := by rw [hW]; exact ((Below.refl _ _).alloc (Nat.le_refl _) _).alloc (by simp) _
  obtain ⟨hA, hR⟩ := ev.two_new w (.cells (fm.N12 9 0 nm .z .z (.slice pk q c)) 28) (.cells #[.int .i64 0, .int .i64 0, .string nul] 31)
  rw [← hW] at hA hR
  have HN : Hid (W.heap[w.heap.size]? = some (.cells (fm.N12 9 0 nm .z .z (.slice pk q c)) 28 (0, 0))) := hA
  have HR : Hid (W.heap[w.heap.size + 1]? = some (.cells #[.int .i64 0, .int .i64 0, .string nul] 31 (0, 0))) := hR
  have HBW : Hid (Below w.heap.size w W) := hbW
  obtain ⟨⟨a0, a1, a2, a3, a4, a5, a6, a7, a8, a9, a10, a11⟩, -⟩ := fm.cells12 hA
  have HWW : Hid ((w.alloc (.cells (fm.N12 9 0 nm .z .z (.slice pk q c)) 28)).alloc (.cells #[.int .i64 0, .int .i64 0, .string nul] 31) = W) := hW.symm
  rw [hW] at a0 a1 a2 a3 a4 a5 a6 a7 a8 a9 a10 a11
  clear hA hR hW hbW
  go_enter Tryz.func50, Tryz.ntmps50
  go_wp2_with fail
  rw [HWW.out] at *
  refine (HF.out _).mono ?_
  clear a0 a1 a2 a3 a4 a5 a6 a7 a8 a9 a10 a11
  rintro e w1 ⟨b, rfl, ht, hb1⟩
  obtain ⟨V1, hV⟩ : ∃ V1, V1 = w1.alloc (.cells #[.int .i64 1, .int .i64 200, .func (.func 233) #[] #[.pointer (some ⟨b, 0, none⟩)]] 120) := ⟨_, rfl⟩
  have hbv : Below w1.heap.size w1 V1 := by rw [hV]; exact (Below.refl _ _).alloc (Nat.le_refl _) _
  have hbW1 : Below W.heap.size W V1 := bnext hb1 hbv hb1.size
  have hN1 : V1.heap[w.heap.size]? = some (.cells (fm.N12 9 0 nm .z .z (.slice pk q c)) 28 (0, 0)) := (hbW1.block _ (fm.lt_blk HN.out)).trans HN.out
  have HR1 : Hid (V1.heap[w.heap.size + 1]? = some (.cells #[.int .i64 0, .int .i64 0, .string nul] 31 (0, 0))) := (hbW1.block _ (fm.lt_blk HR.out)).trans HR.out
  have HB1 : Hid (Below w.heap.size w V1) := bnext HBW.out hbW1 HBW.out.size
  have HY : Hid (Calls Tryz.prog 233 #[.agg #[.map mb, .slice pk q c], .pointer (some ⟨b, 0, none⟩)] V1 fun e w' => e = .returned (VV r.k r.n r.s) ∧ Below V1.heap.size V1 w') := HX.out b V1 (hP.out _ _ _ ht hbv) HB1.out
  have hV0 : V1.heap[w1.heap.size]? = some (.cells #[.int .i64 1, .int .i64 200, .func (.func 233) #[] #[.pointer (some ⟨b, 0, none⟩)]] 120 (0, 0)) := by rw [hV]; exact heap_alloc_new _ _
  obtain ⟨v0, v1, v2⟩ := cells3v hV0
  have ef := eq_fnK 233 #[.pointer (some ⟨b, 0, none⟩)] V1
  obtain ⟨⟨a0, a1, a2, a3, a4, a5, a6, a7, a8, a9, a10, a11⟩, -⟩ := fm.cells12 hN1
  rw [hV] at v0 v1 v2 ef a0 a1 a2 a3 a4 a5 a6 a7 a8 a9 a10 a11
  have HVV : Hid (w1.alloc (.cells #[.int .i64 1, .int .i64 200, .func (.func 233) #[] #[.pointer (some ⟨b, 0, none⟩)]] 120) = V1) := hV.symm
  clear hV hV0 ht hb1 hbv hbW1 hN1 HWW HR HBW HN HF HX
  go_wp2_with fail
  rw [HVV.out] at *
  refine HY.out.mono ?_
  clear v0 v1 v2 ef a0 a1 a2 a3 a4 a5 a6 a7 a8 a9 a10 a11
  rintro e w4 ⟨rfl, hb4⟩
  have hq1 : w4.heap[w.heap.size + 1]? = some (.cells #[.int .i64 0, .int .i64 0, .string nul] 31 (0, 0)) := (hb4.block _ (fm.lt_blk HR1.out)).trans HR1.out
  have HB : Hid (Below w.heap.size w w4) := bnext HB1.out hb4 HB1.out.size
  obtain ⟨c0, c1, c2⟩ := cells3v hq1
  have f0 := frz hq1
  have HQ1 : Hid (w4.heap[w.heap.size + 1]? = some (.cells #[.int .i64 0, .int .i64 0, .string nul] 31 (0, 0))) := hq1
  clear hq1 hb4 HR1 HB1 HY HVV
  go_wp2_with fail
  refine fin3 HQ1.out (Q := bodyPost _ _ _ _ _) ?_
  clear c0 c1 c2 f0
  intro w2 hq2 hk2
  obtain ⟨d0, d1, d2⟩ := cells3v hq2
  exact bodyPost_ret (v := VV r.k r.n r.s) (by simp [results, Tryz.results50, go_sem, d0, d1, d2]) rfl ⟨rfl, HB.out.trans (hk2 _ (by omega))⟩
/-- The call, the counting work in its box, the answer's block. -/
abbrev MYC (w : World) (M : Value) (p : Option Addr) (q c b pc : Nat) (wx : World) : Prop :=
  wx.cell? ⟨w.heap.size, 0, none⟩ = some M ∧ wx.cell? ⟨w.heap.size, 1, none⟩ = some (.slice p q c) ∧ wx.cell? ⟨b, 0, none⟩ = some (.func (.func 239) #[] #[.pointer (some ⟨pc, 0, none⟩)]) ∧ MY w M p q c b pc 0 0 wx
theorem MY.openC {w : World} {M : Value} {p : Option Addr} {q c b pc : Nat} {wx : World} (h : MY w M p q c b pc 0 0 wx) (hb : Boxed w b 176 (.func (.func 239) #[] #[.pointer (some ⟨pc, 0, none⟩)])) : MYC w M p q c b pc wx :=
  ⟨by simp [World.cell?, h.call], by simp [World.cell?, h.call], Boxed.cell ((h.below.block _ hb.lt).trans hb), h⟩
theorem myc {w : World} {M : Value} {p : Option Addr} {q c b pc : Nat} {wx : World} (h : MYC w M p q c b pc wx) : MY w M p q c b pc 0 0 wx := h.2.2.2
set_option maxRecDepth 100000 in
set_option maxHeartbeats 4000000 in
theorem many1c_any (M : Value) (p : Option Addr) (q c b pc : Nat) (r : V3) (w : World) (hb : Boxed w b 176 (.func (.func 239) #[] #[.pointer (some ⟨pc, 0, none⟩)]))
    (HX : Hid (∀ wy Bc, wy.heap[Bc]? = some (.cells #[M, .slice p q c] 123 (0, 0)) → Below w.heap.size w wy → Calls Tryz.prog 239 #[.func (.func 265) #[] #[.pointer (some ⟨Bc, 0, none⟩)], .pointer (some ⟨pc, 0, none⟩)] wy fun e w' => e = .returned (VV r.k r.n r.s) ∧ Below wy.heap.size wy w')) :
    Calls Tryz.prog 233 #[.agg #[M, .slice p q c], .pointer (some ⟨b, 0, none⟩)] w fun e w' => e = .returned (VV r.k r.n r.s) ∧ Below w.heap.size w w' := by
  obtain ⟨hA, hR⟩ := two_new w (.cells #[M, .slice p q c] 123) (.cells #[.int .i64 0, .int .i64 0, .string nul] 31)
  have hbW : Below w.heap.size w ((w.alloc (.cells #[M, .slice p q c] 123)).alloc (.cells #[.int .i64 0, .int .i64 0, .string nul] 31)) := ((Below.refl _ _).alloc (Nat.le_refl _) _).alloc (by simp) _
  have hMY : MY w M p q c b pc 0 0 ((w.alloc (.cells #[M, .slice p q c] 123)).alloc (.cells #[.int .i64 0, .int .i64 0, .string nul] 31)) := ⟨hA, ⟨_, _, _, hR⟩, hbW⟩
  have HIM : Hid (∀ wx, Calls Tryz.prog 234 #[.agg #[M, .slice p q c]] wx fun e w' => ∃ Bc, e = .returned (.func (.func 265) #[] #[.pointer (some ⟨Bc, 0, none⟩)]) ∧ w'.heap[Bc]? = some (.cells #[M, .slice p q c] 123 (0, 0)) ∧ Below wx.heap.size wx w') := fun wx => items_make M p q c wx
  have HB : Hid (Boxed w b 176 (.func (.func 239) #[] #[.pointer (some ⟨pc, 0, none⟩)])) := hb
  clear hA hR hbW hb
  go_enter Tryz.func233, Tryz.ntmps233
  go_wp2_with fail
  generalize (w.alloc (.cells #[M, .slice p q c] 123)).alloc (.cells #[.int .i64 0, .int .i64 0, .string nul] 31) = W at *
  have h0d := (hMY.next (Below.refl _ _).drew).openC HB.out
  obtain ⟨y0, y1, y2, -⟩ := hMY.openC HB.out
  go_region_held3 (fun wx => MYC w M p q c b pc wx) (first | exact h0d | exact ((myc (by assumption)).next (by assumption)).openC HB.out | exact ((myc (by assumption)).set3 _ _ _).openC HB.out) (first | (go_at_call 234; refine (HIM.out _).mono ?_; rintro e w1 ⟨Bc, rfl, hBc, hb1⟩; have HBc : Hid (w1.heap[Bc]? = some (.cells #[M, .slice p q c] 123 (0, 0))) := hBc; clear hBc) | (go_at_call 239; refine (HX.out _ _ HBc.out (myc (by assumption)).below).mono ?_; rintro e w3 ⟨rfl, hb3⟩; have hk3 := (myc (by assumption)).next hb3; obtain ⟨t0, t1, t2, hq1⟩ := hk3.res; have HBL : Hid (Below w.heap.size w w3) := hk3.below; obtain ⟨c0, c1, c2⟩ := cells3v hq1; have f0 := frz hq1))
  all_goals
    have HQ1 : Hid (w3.heap[w.heap.size + 1]? = some (.cells #[t0, t1, t2] 31 (0, 0))) := hq1
    clear hq1 hb3 hk3 h0d hMY
    go_wp2_with fail
    refine fin3 HQ1.out (Q := bodyPost _ _ _ _ _) ?_
    clear c0 c1 c2 f0
    intro w4 hq4 hk4
    obtain ⟨d0, d1, d2⟩ := cells3v hq4
    exact bodyPost_ret (v := VV r.k r.n r.s) (by simp [results, Tryz.results233, go_sem, d0, d1, d2]) rfl ⟨rfl, HBL.out.trans (hk4 _ (by omega))⟩
end Go.Proofs.YtoaejcppfmjhdaaGreatDoor.ov
