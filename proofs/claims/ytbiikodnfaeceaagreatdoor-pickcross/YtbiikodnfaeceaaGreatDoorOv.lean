
/- Package eval: the sum of a list of values, by a range over a function. Conditions: as each theorem says. -/
import Derived.Test.YtbiikodnfaeceaaGreatDoorOq
import Derived.RangeFuncNested
import Derived.RangeFuncBound
import Derived.RangeFuncCalls
import Derived.RangeFuncLeaves
import Derived.RangeFuncBox
import Derived.Maps.AppendAt
import Derived.Shelf.Abstract
import Derived.Shelf.RegionOpen
import Derived.WalkKit
import Derived.OwnWalkIn
import Derived.TacticsInMore
import Derived.LoopNIn
import Derived.LoopIn
namespace Go.Proofs.YtbiikodnfaeceaaGreatDoor.rb
open Go.RowKit
variable {F : Fence} {n : Nat} {P : Program}
/-- What an iterator says of itself: 'fst' is what it is bound to, 'lb' what it captured. The caller's words abide whatever is done to blocks of the iterator's own that hold no cells. -/
def SeqB {α : Type} (F : Fence) (n : Nat) (P : Program) (gf : Nat) (fst lb : Array Value) (encs : α → Array Value) (Kp : World → World → Prop) (S Sp : List α → Prop) (N : Nat) (w : World) : Prop :=
  ∀ (l : Nat) (J Jx : List α → World → Prop) (W : World), Below w.heap.size w W → OwnFrom W.heap.size J → OwnFrom W.heap.size Jx →
    (∀ pre x W1, J pre W1 → pre.length < N → YieldAt F (n - 1) P l (encs x) W1 fun e W' =>
      KeepsFrom W.heap.size W1 W' ∧ ((e = .returned (.bool true) ∧ J (pre ++ [x]) W' ∧ Kp W1 W') ∨ (e = .returned (.bool false) ∧ Jx (pre ++ [x]) W'))) →
    J [] W →
    CallsIn F n P gf (fst ++ #[.func (.yield l) #[] #[]] ++ lb) W fun e W' => (∃ v, e = .returned v) ∧ ((∃ xs, S xs ∧ J xs W') ∨ (∃ pre, Sp pre ∧ Jx pre W'))
theorem keeps_mono {B B' : Nat} {W W' : World} (h : KeepsFrom B W W') (hB : B ≤ B') : KeepsFrom B' W W' := ⟨h.size, fun k o hk => h.same k o (Nat.le_trans hB hk)⟩
theorem keeps_put {B l : Nat} (W : World) (o : Obj) (h : l < B) : KeepsFrom B W (W.putObj l o) := KeepsFrom.of_grownBy (grownBy_putObj' W l o) (fun j e => by cases e; exact h)
/-- The loop's two blocks. -/
structure Bk (b : Nat) (r : Loop) (W : World) : Prop where
  df : W.heap[b]? = some (.deferred (some []))
  lo : W.heap[b + 1]? = some (.loop r)
theorem Bk.lt {b : Nat} {r : Loop} {W : World} (h : Bk b r W) : b + 1 < W.heap.size := (Array.getElem?_eq_some_iff.1 h.lo).1
theorem Bk.put {b : Nat} {r : Loop} {W : World} (h : Bk b r W) (r' : Loop) : Bk b r' (W.putObj (b + 1) (.loop r')) :=
  ⟨(World.putObj_heap_other (by omega)).trans h.df, World.putObj_heap_same h.lt⟩
theorem Bk.keep {b : Nat} {r : Loop} {W W' : World} (h : Bk b r W) (k : KeepsFrom b W W') : Bk b r W' :=
  ⟨k.same _ _ (Nat.le_refl _) h.df rfl, k.same _ _ (Nat.le_succ _) h.lo rfl⟩
theorem Bk.grow {b B : Nat} {r : Loop} {W W' : World} {row : Option Nat} (h : Bk b r W) (hB : b + 1 < B) (hg : W.grownBy W' row) (hr : ∀ x, row = some x → B ≤ x) : Bk b r W' :=
  ⟨(hg.block _ (by have := h.lt; omega) (fun e => by have := hr _ e.symm; omega)).trans h.df, (hg.block _ h.lt (fun e => by have := hr _ e.symm; omega)).trans h.lo⟩
theorem Bk.made (w : World) (r : Loop) : Bk w.heap.size r ((w.alloc (.deferred (some []))).alloc (.loop r)) :=
  ⟨(Below.heap_alloc _ _ _ (by simp)).trans (World.alloc_heap_new w _), by have := World.alloc_heap_new (w.alloc (.deferred (some []))) (.loop r); rwa [World.size_alloc] at this⟩
theorem range_own {α : Type} {g : Operand} {ps : Array Tmp} {assign body : Code} {Q : Exit → Act → World → Prop} {a : Act} {w : World}
    (hro : F.round = none) (h1 : 1 ≤ n) {gf : Nat} {fst lb : Array Value} (hg : a.eval g = .func (.func gf) fst lb) (hFg : F.fn gf) (eg : ∀ args w, (callFunc gf args).run P w = .ok (.enter gf args) w)
    {encs : α → Array Value} {Kp : World → World → Prop} {S Sp : List α → Prop} {N : Nat} {w0 : World} (hseq : SeqB F (n - 1) P gf fst lb encs Kp S Sp N w0)
    (hKt : ∀ {A B C : World}, Kp A B → Kp B C → Kp A C) (hKb : ∀ (W : World) (l : Nat) (o o' : Obj), w.heap.size ≤ l → W.heap[l]? = some o → o.isCells = false → o.isWalk = false → Kp W (W.putObj l o'))
    (hb0 : Below w0.heap.size w0 w) (hps : ∀ x, (encs x).size = ps.size)
    (I : List α → World → Prop) (Ix : List α → World → Prop) (hI : OwnFrom w.heap.size I) (hIx : OwnFrom w.heap.size Ix) (h0 : I [] w) (Ax : α → Act → World → Prop) (hAx : ∀ x a', OwnFrom w.heap.size (fun (_ : Unit) W => Ax x a' W))
    (hassign : ∀ (l : Nat) (pre : List α) (x : α) (W : World) (K : Act → World → Prop), I pre W → (∀ a' W', KeepsFrom w.heap.size W W' → Kp W W' → I pre W' → Ax x a' W' → K a' W') →
      assign.wpIn (F.inRound l) (n - 1 - 1) P (Exit.then K (fun _ _ _ => False)) { tmps := (ps.zip (encs x)).foldl (fun t (p, v) => t.setIfInBounds p v) a.tmps, defers := [] } W)
    (hbody : ∀ (l : Nat) (pre : List α) (x : α) (a' : Act) (W : World), w.heap.size ≤ l → (∃ r, W.heap[l]? = some (.loop r)) → I pre W → Ax x a' W → pre.length < N →
      body.wpIn (F.inRound l) (n - 1 - 1) P (ownPostG w.heap.size Kp I (fun c xs W' => c = .ret ∧ Ix xs W') (pre ++ [x]) W) a' W)
    (hdone : ∀ (xs : List α) (W : World), S xs → I xs W → W.heap[w.heap.size]? = some (.deferred (some [])) → Q .normal { a with defers := { target := .collected w.heap.size, args := #[] } :: a.defers } W)
    (hstop : ∀ (pre : List α) (W : World), Sp pre → Ix pre W → W.heap[w.heap.size]? = some (.deferred (some [])) → Code.ret.wpIn F n P Q { a with defers := { target := .collected w.heap.size, args := #[] } :: a.defers } W) :
    (Code.rangeFunc g ps assign body).wpIn F n P Q a w := by
  refine wpIn_rangeFunc fun fn hfn => ?_
  rw [hro]
  obtain ⟨b, hb⟩ : ∃ b, w.heap.size = b := ⟨_, rfl⟩
  obtain ⟨rc, hrc⟩ : ∃ rc : Loop, rc = { state := .ready, pending := none, fn, tmps := a.tmps, params := ps, assign, body, defers := w.heap.size } := ⟨_, rfl⟩
  have hmade := Bk.made w rc
  have hI1 : I [] ((w.alloc (.deferred (some []))).alloc (.loop rc)) := hI.alloc _ (hI.alloc _ h0)
  have hB1 : Below w0.heap.size w0 ((w.alloc (.deferred (some []))).alloc (.loop rc)) := hb0.trans ((((Below.refl _ w).alloc (Nat.le_refl _) _).alloc (by simp) _).mono hb0.size)
  have hent := run_enterLoop_outer (P := P) (w := w) fn a.tmps ps assign body
  rw [← hrc] at hent
  have hle : w.heap.size + 1 < ((w.alloc (.deferred (some []))).alloc (.loop rc)).heap.size := by simp
  revert hmade hI1 hB1 hent hle
  generalize (w.alloc (.deferred (some []))).alloc (.loop rc) = W1
  intro hmade hI1 hB1 hent hle
  refine ⟨_, _, W1, { target := .fn (.func gf) lb, args := fst ++ #[.func (.yield (w.heap.size + 1)) #[] #[]] }, W1, gf, fst ++ #[.func (.yield (w.heap.size + 1)) #[] #[]] ++ lb, W1, hent, ?_, ?_, ?_, fun _ => h1, ?_⟩
  · simp only [resolve, hg]
    simp [go_sem]
  · intro f' hf'; simp [Target.leads] at hf'; subst hf'; exact hFg
  · simp [invoke, go_sem, eg]
  refine (hseq (w.heap.size + 1) (fun pre W => I pre W ∧ Bk w.heap.size rc W) (fun pre W => Ix pre W ∧ Bk w.heap.size { rc with state := .done, pending := some .ret } W) W1 hB1
    (fun s A B row hs hg' hr => ⟨hI s A B row hs.1 hg' (fun x e => ⟨by have := (hr x e).1; omega, (hr x e).2⟩), hs.2.grow hle hg' (fun x e => (hr x e).1)⟩)
    (fun s A B row hs hg' hr => ⟨hIx s A B row hs.1 hg' (fun x e => ⟨by have := (hr x e).1; omega, (hr x e).2⟩), hs.2.grow hle hg' (fun x e => (hr x e).1)⟩)
    ?_ ⟨hI1, hmade⟩).mono ?_
  · rintro pre x W ⟨hi, hk⟩ hlen
    have hy := run_yield (P := P) (args := encs x) hk.lo (by rw [hrc]; exact hps x)
    refine ⟨_, _, _, _, hy, ?_⟩
    rw [hrc]
    refine roundIn_of_wpIn hfn (hassign _ pre x W _ hi ?_)
    rw [← hrc]
    intro a' Wa hkfa hkpa hia hax
    have hka := hk.keep hkfa
    refine ⟨_, run_beginRound hka.lo (by rw [hrc]), ?_⟩
    have hk2 := hka.put { rc with state := .busy }
    have hi2 : I pre (Wa.putObj (w.heap.size + 1) (.loop { rc with state := .busy })) := hI.putObj _ hia (Nat.le_succ _) hka.lo rfl
    have hx2 : Ax x a' (Wa.putObj (w.heap.size + 1) (.loop { rc with state := .busy })) := (hAx x a').putObj (s := ()) _ hax (Nat.le_succ _) hka.lo rfl
    have hp2 : Kp W (Wa.putObj (w.heap.size + 1) (.loop { rc with state := .busy })) := hKt hkpa (hKb _ _ _ _ (Nat.le_succ _) hka.lo rfl rfl)
    have hkk : KeepsFrom W1.heap.size W (Wa.putObj (w.heap.size + 1) (.loop { rc with state := .busy })) := (keeps_mono hkfa (by omega)).trans (keeps_put Wa _ hle)
    have hbb : ∀ c, c = body → c.wpIn (F.inRound (w.heap.size + 1)) (n - 1 - 1) P (ownPostG w.heap.size Kp I (fun c xs W' => c = .ret ∧ Ix xs W') (pre ++ [x]) (Wa.putObj (w.heap.size + 1) (.loop { rc with state := .busy }))) a' (Wa.putObj (w.heap.size + 1) (.loop { rc with state := .busy })) := fun c e => by
      subst e
      exact hbody (w.heap.size + 1) pre x a' _ (Nat.le_succ _) ⟨_, hk2.lo⟩ hi2 hx2 hlen
    refine wpIn_mono (hbb rc.body (by rw [hrc])) ?_
    rintro e a3 W3 hp
    cases e with
    | normal =>
      obtain ⟨hkf, hkp, hi3⟩ := hp
      have hk3 := hk2.keep hkf
      have er : ({ ({ rc with state := .busy } : Loop) with state := if (none : Option Code).isNone then .ready else .done, pending := none } : Loop) = rc := by rw [hrc]; rfl
      have hr := run_endRound (P := P) none hk3.lo
      have hk4 := hk3.put rc
      rw [er] at hr
      exact ⟨_, _, hr, (hkk.trans (keeps_mono hkf (by omega))).trans (keeps_put W3 _ hle), .inl ⟨rfl, ⟨hI.putObj _ hi3 (Nat.le_succ _) hk3.lo rfl, hk4⟩, hKt (hKt hp2 hkp) (hKb _ _ _ _ (Nat.le_succ _) hk3.lo rfl rfl)⟩⟩
    | ret =>
      obtain ⟨hkf, -, hi3⟩ := hp
      have hk3 := hk2.keep hkf
      exact ⟨_, _, run_endRound (P := P) (some .ret) hk3.lo, (hkk.trans (keeps_mono hkf (by omega))).trans (keeps_put W3 _ hle), .inr ⟨rfl, hIx.putObj _ hi3 (Nat.le_succ _) hk3.lo rfl, hk3.put _⟩⟩
    | exit id => exact absurd hp.2.1 (by intro h; cases h)
    | goto t => exact absurd hp.2.1 (by intro h; cases h)
    | panic ch => exact hp.elim
    | outgrown => exact hp.elim
  · rintro e W2 ⟨⟨v, rfl⟩, ⟨xs, hS, hi, hk⟩ | ⟨pre, hSp, hi, hk⟩⟩
    · have hr := run_endLoop (P := P) hk.lo (by rw [hrc]; simp)
      exact ⟨none, _, by rw [hr, hrc], hdone xs _ hS (hI.putObj _ hi (Nat.le_succ _) hk.lo rfl) (hk.put _).df⟩
    · have hr := run_endLoop (P := P) hk.lo (by simp)
      exact ⟨some .ret, _, hr, hstop pre _ hSp (hIx.putObj _ hi (Nat.le_succ _) hk.lo rfl) (hk.put _).df⟩
end Go.Proofs.YtbiikodnfaeceaaGreatDoor.rb
namespace Go.Proofs.YtbiikodnfaeceaaGreatDoor.so
open Go.RowKit Go.Shelf
attribute [local go_sem] Oper.semAt_some
abbrev Vl.enc (x : Vl) : Array Value := #[V x.k x.n x.s, .bool true]
def skp (ct : Int → Bool) (x : Vl) : Bool := !(x.k == 4) && !(ct x.k)
def good (rd : Int → Int → ByteArray → Vl) (ct : Int → Bool) (x : Vl) : Bool := skp ct x || !((rd x.k x.n x.s).k == 4)
def ovN (rd : Int → Int → ByteArray → Vl) (ct : Int → Bool) (xs : List Vl) : List Int := (xs.filter fun x => !skp ct x).map fun x => (rd x.k x.n x.s).n
theorem ovN_skip {rd : Int → Int → ByteArray → Vl} {ct : Int → Bool} {xs : List Vl} {x : Vl} (h : skp ct x = true) : ovN rd ct (xs ++ [x]) = ovN rd ct xs := by simp [ovN, h]
theorem ovN_take {rd : Int → Int → ByteArray → Vl} {ct : Int → Bool} {xs : List Vl} {x : Vl} (h : skp ct x = false) : ovN rd ct (xs ++ [x]) = ovN rd ct xs ++ [(rd x.k x.n x.s).n] := by simp [ovN, h]
theorem ovN_len (rd : Int → Int → ByteArray → Vl) (ct : Int → Bool) (xs : List Vl) : (ovN rd ct xs).length ≤ xs.length := by
  unfold ovN; rw [List.length_map]; exact List.length_filter_le _ _
theorem blk_own {β : Type} (B : Nat) (cs : Array Value) (t : TypeId) : Own (fun (_ : β) W => W.heap[B]? = some (.cells cs t (0, 0))) := fun s X Y row hs hg hrow =>
  (hg.block B (lt_of_blk hs) (fun e => by
    obtain ⟨o', h1, h2⟩ := hrow B e.symm
    rw [hs] at h1
    cases h1
    cases h2)).trans hs
theorem below_keeps {W W' : World} (h : Below W.heap.size W W') : KeepsOthers W W' := ⟨h.size, fun k _ hk _ => (h.block k (lt_of_blk hk)).trans hk⟩
theorem own_below {w w' : World} {base n : Nat} {v : Value} {xs : List Value} (h : w.ownsRow base 3 1 v n xs) (hb : Below w.heap.size w w') : w'.ownsRow base 3 1 v n xs := by
  obtain ⟨h0, h | ⟨g, cap, cur, h1, h2, h3, h4⟩⟩ := h
  · exact ⟨h0, Or.inl h⟩
  · exact ⟨h0, Or.inr ⟨g, cap, cur, h1, h2, by rw [hb.block g (lt_of_blk h3)]; exact h3, h4⟩⟩
theorem own_keepB {w w' : World} {base n b : Nat} {v : Value} {xs : List Value} {cs : Array Value} {t : TypeId} (h : w.ownsRow base 3 1 v n xs) (hb : w.heap[b]? = some (.cells cs t (0, 0))) (ht : t ≠ 3) (he : ∀ i, i ≠ b → w'.heap[i]? = w.heap[i]?) : w'.ownsRow base 3 1 v n xs := by
  obtain ⟨h0, h | ⟨g, cap, cur, h1, h2, h3, h4⟩⟩ := h
  · exact ⟨h0, Or.inl h⟩
  · refine ⟨h0, Or.inr ⟨g, cap, cur, h1, h2, ?_, h4⟩⟩
    rw [he g (fun e => by rw [e, hb] at h3; injection h3 with h3; injection h3 with h5 h6; exact ht h6)]; exact h3
theorem blk_not_row {W : World} {B base k : Nat} {cs : Array Value} {t : TypeId} {v : Value} {xs : List Value} (h : W.heap[B]? = some (.cells cs t (0, 0))) (ht : t ≠ 3) (hr : W.ownsRow base 3 1 v k xs) : some B ≠ v.ownBlock := by
  intro e
  rcases hr.2 with ⟨rfl, _⟩ | ⟨g, cap, cur, rfl, _, hgb, _⟩
  · simp [Value.ownBlock] at e
  · obtain rfl : B = g := by simpa [Value.ownBlock] using e
    rw [h] at hgb; injection hgb with hgb; injection hgb with h5 h6; exact ht h6
/-- What lay below n lies as it lay. -/
structure KC (n : Nat) (W W' : World) : Prop where
  below : Below n W W'
theorem KC.refl (n : Nat) (W : World) : KC n W W := ⟨Below.refl _ _⟩
theorem KC.trans {n : Nat} {A B C : World} (h : KC n A B) (k : KC n B C) : KC n A C := ⟨h.below.trans k.below⟩
theorem KC.of {n : Nat} {W W' : World} (h : Below W.heap.size W W') (hn : n ≤ W.heap.size) : KC n W W' := ⟨h.mono hn⟩
theorem KC.put {n : Nat} {w : World} (hn : n ≤ w.heap.size) (W : World) (l : Nat) (o o' : Obj) (hl : w.heap.size ≤ l) (h : W.heap[l]? = some o) (h1 : o.isCells = false) (h2 : o.isWalk = false) : KC n W (W.putObj l o') := ⟨belowK_b hn W l o o' hl h h1 h2⟩
def ctN (k : Int) : Bool := k == 1
/-- What holds between two rounds. -/
def OI (rd : Int → Int → ByteArray → Vl) (ct : Int → Bool) (w : World) (pre : List Vl) (W : World) : Prop :=
  (((∀ y ∈ pre, good rd ct y = true) ∧ W.heap[w.heap.size]? = some (.cells #[.int .i64 0, .int .i64 0, .string nul] 36 (0, 0))) ∧ (∃ v, Boxed W (w.heap.size + 1) 23 v ∧ W.ownsRow w.heap.size 3 1 v (ovN rd ct pre).length ((ovN rd ct pre).map (Value.int .i64)) ∧ True)) ∧ Below w.heap.size w W
/-- What holds where a round has left. -/
def OX (rd : Int → Int → ByteArray → Vl) (ct : Int → Bool) (w : World) (c : Code) (pre : List Vl) (W : World) : Prop :=
  (c = .ret ∧ ∃ q x, pre = q ++ [x] ∧ (∀ y ∈ q, good rd ct y = true) ∧ good rd ct x = false ∧ W.heap[w.heap.size]? = some (.cells #[.int .i64 (rd x.k x.n x.s).k, .int .i64 (rd x.k x.n x.s).n, .string (rd x.k x.n x.s).s] 36 (0, 0))) ∧ Below w.heap.size w W
theorem OI.own (rd : Int → Int → ByteArray → Vl) (ct : Int → Bool) (w : World) {B : Nat} (hB : w.heap.size ≤ B) : OwnFrom B (OI rd ct w) :=
  OwnFrom.and (OwnFrom.and (OwnFrom.and (ownFrom_pure _ _) (Own.from (blk_own _ _ _) _)) (Own.from (holdsRow_own w.heap.size (w.heap.size + 1) 23 3 1 (fun pre => (ovN rd ct pre).length) (fun pre => (ovN rd ct pre).map (Value.int .i64)) (fun _ _ => True)) _)) (ownFrom_below (Nat.le_refl _) hB)
theorem OX.own (rd : Int → Int → ByteArray → Vl) (ct : Int → Bool) (w : World) (c : Code) {B : Nat} (hB : w.heap.size ≤ B) : OwnFrom B (OX rd ct w c) :=
  OwnFrom.and (fun s X Y row hs hg hr => by
    obtain ⟨h1, q, x, h2, h3, h4, h5⟩ := hs
    exact ⟨h1, q, x, h2, h3, h4, blk_own (β := Unit) _ _ _ () X Y row h5 hg (fun r e => (hr r e).2)⟩) (ownFrom_below (Nat.le_refl _) hB)
set_option maxRecDepth 100000 in
set_option maxHeartbeats 8000000 in
theorem over_nm (rd : Int → Int → ByteArray → Vl) (xs : List Vl) (hlen : xs.length ≤ 1000000) (lb : Array Value) (Kw pc pr pw : Nat) (r : Vl) (w : World)
    (hc : Boxed w pc 71 (.func (.func 74) #[] #[])) (hr : Boxed w pr 106 (.func (.func 76) #[] #[])) (hw : Boxed w pw 61 (.func (.func Kw) #[] #[]))
    (hE : Hid (∀ v wx, Sem.run Tryz.prog (callFunc Kw #[v]) wx = .ok (.enter Kw #[v]) wx))
    (hseq : rb.SeqB Fence.wide 4 Tryz.prog 54 #[] lb Vl.enc (KC w.heap.size) (fun ys => ys = xs) (fun pre => pre <+: xs) xs.length w)
    (HI : Hid (∀ k n s wx, Calls Tryz.prog 107 #[V k n s] wx fun e w' => e = .returned (.bool (k == 4)) ∧ Below wx.heap.size wx w'))
    (HT : Hid (∀ k wx, Calls Tryz.prog 74 #[.int .i64 k] wx fun e w' => e = .returned (.bool (ctN k)) ∧ Below wx.heap.size wx w'))
    (HR : Hid (∀ k n s wx, ((k == 4) = true ∨ ctN k = true) → Below w.heap.size w wx → Calls Tryz.prog 76 #[V k n s] wx fun e w' => e = .returned (V (rd k n s).k (rd k n s).n (rd k n s).s) ∧ Below wx.heap.size wx w'))
    (hbad : Hid (∀ pre x, pre ++ [x] <+: xs → (∀ y ∈ pre, good rd ctN y = true) → good rd ctN x = false → r = rd x.k x.n x.s))
    (HW : Hid ((∀ y ∈ xs, good rd ctN y = true) → ∀ wx v, Below w.heap.size w wx → wx.ownsRow w.heap.size 3 1 v (ovN rd ctN xs).length ((ovN rd ctN xs).map (Value.int .i64)) → Calls Tryz.prog Kw #[v] wx fun e w' => e = .returned (V r.k r.n r.s) ∧ Below wx.heap.size wx w')) :
    Calls Tryz.prog 106 #[.func (.func 54) #[] lb, .pointer (some ⟨pc, 0, none⟩), .pointer (some ⟨pr, 0, none⟩), .pointer (some ⟨pw, 0, none⟩)] w fun e w' => e = .returned (V r.k r.n r.s) ∧ Below w.heap.size w w' := by
  obtain ⟨i0, hi, hz0, hz1, hz2⟩ := info_parts info3
  refine (callsIn_wide (n := 5)).1 ?_
  refine callsIn_of_wp_marks Tryz.func106 rfl trivial ?_ rfl
  simp only [Tryz.ntmps106, List.size_toArray, List.length_cons, List.length_nil, Nat.reduceAdd, Nat.reduceSub, Array.replicate_succ, Array.replicate_zero, List.push_toArray, List.append_toArray, List.nil_append, List.cons_append]
  gi_wp2
  have hA : ((w.alloc (.cells #[.int .i64 0, .int .i64 0, .string nul] 36)).alloc (.cells #[.slice none 0 0] 23)).heap[w.heap.size]? = some (.cells #[.int .i64 0, .int .i64 0, .string nul] 36 (0, 0)) := (((Below.refl (w.heap.size + 1) _).alloc (by simp) _).block w.heap.size (by omega)).trans (heap_alloc_new w _)
  have bO := Boxed.new (w.alloc (.cells #[.int .i64 0, .int .i64 0, .string nul] 36)) 23 (.slice none 0 0)
  rw [World.size_alloc] at bO
  have hB0 : Below w.heap.size w ((w.alloc (.cells #[.int .i64 0, .int .i64 0, .string nul] 36)).alloc (.cells #[.slice none 0 0] 23)) := ((Below.refl _ w).alloc (Nat.le_refl _) _).alloc (by simp) _
  have hsz : ((w.alloc (.cells #[.int .i64 0, .int .i64 0, .string nul] 36)).alloc (.cells #[.slice none 0 0] 23)).heap.size = w.heap.size + 2 := by simp
  obtain ⟨W0, hW0⟩ : ∃ W0, (w.alloc (.cells #[.int .i64 0, .int .i64 0, .string nul] 36)).alloc (.cells #[.slice none 0 0] 23) = W0 := ⟨_, rfl⟩
  rw [hW0] at hA bO hB0 hsz ⊢
  clear hW0
  refine rb.range_own rfl (by omega) (gf := 54) (fst := #[]) (lb := lb) rfl trivial (enters_of Tryz.func54 (by kernel_rfl) rfl)
    hseq (fun h k => KC.trans h k) (KC.put (by omega)) hB0 (fun _ => rfl)
    (OI rd ctN w) (OX rd ctN w .ret) (OI.own rd _ w (by omega)) (OX.own rd _ w .ret (by omega))
    ⟨⟨⟨by simp, hA⟩, _, bO, World.ownsRow_nil _ _ _ _, trivial⟩, hB0⟩
    (fun x a' W => ∃ Bx, w.heap.size + 1 < Bx ∧ W.heap[Bx]? = some (.cells #[.int .i64 x.k, .int .i64 x.n, .string x.s] 36 (0, 0)) ∧ a' = { tmps := #[.func (.func 54) #[] lb, .pointer (some ⟨pc, 0, none⟩), .pointer (some ⟨pr, 0, none⟩), .pointer (some ⟨pw, 0, none⟩), undef, .pointer (some ⟨w.heap.size, 0, none⟩), .pointer (some ⟨w.heap.size + 1, 0, none⟩), .pointer (some ⟨Bx, 0, none⟩), .bool true, .func (.func 54) #[] lb, V x.k x.n x.s, .bool true, undef, undef, undef, undef, undef, undef, undef, undef, undef, undef, undef, undef, undef, undef, undef, undef, undef, undef, undef, undef, undef, undef, undef, undef, undef, undef, undef], defers := [] })
    (fun x a' _ X Y row hs hg hr => by obtain ⟨Bx, e1, e2, e3⟩ := hs; exact ⟨Bx, e1, blk_own (β := Unit) _ _ _ () X Y row e2 hg (fun r e => (hr r e).2), e3⟩)
    ?assign ?body ?done ?stop
  case assign =>
    rintro l pre x W K ⟨⟨⟨hp, hA1⟩, v, bO1, hr1, -⟩, hB1⟩ hK
    gi_wp2
    have hq2 := heap_alloc_new W (.cells #[.int .i64 x.k, .int .i64 x.n, .string x.s] 36)
    have hBW := (Below.refl W.heap.size W).alloc (Nat.le_refl _) (.cells #[.int .i64 x.k, .int .i64 x.n, .string x.s] 36)
    exact hK _ _ ((below_keeps hBW).from _) (KC.of hBW hB1.size) ⟨⟨⟨hp, (hBW.block _ (lt_of_blk hA1)).trans hA1⟩, v, (hBW.block _ bO1.lt).trans bO1, own_below hr1 hBW, trivial⟩, bnext hB1 hBW hB1.size⟩ ⟨W.heap.size, bO1.lt, hq2, rfl⟩
  case body =>
    rintro l pre ⟨k, n, s⟩ a' W hl ⟨rl, hrl⟩ ⟨⟨⟨hp, hA1⟩, v, bO1, hr1, -⟩, hB1⟩ ⟨Bx, hBx, bX, rfl⟩ hlt
    dsimp only at bX ⊢
    have hc1 := Boxed.cell ((hB1.block _ hc.lt).trans hc)
    have hrr1 := Boxed.cell ((hB1.block _ hr.lt).trans hr)
    obtain ⟨x0, x1, x2⟩ := ocells3 bX
    have hWW : KC w.heap.size W W := KC.refl _ _
    have hKW := KeepsOthers.refl W
    gi_wp2_with fail
    refine ⟨trivial, ?_⟩
    refine (CallsIn.inRound l (callsIn_wide.2 (HI.out k n s W))).mono ?_
    rintro e Wa ⟨rfl, hba⟩
    have hBa : Below w.heap.size w Wa := bnext hB1 hba hB1.size
    have hAa := (hba.block _ (lt_of_blk hA1)).trans hA1
    have bOa : Boxed Wa (w.heap.size + 1) 23 v := (hba.block _ bO1.lt).trans bO1
    have hra := own_below hr1 hba
    have bXa := (hba.block _ (lt_of_blk bX)).trans bX
    have hca := Boxed.cell ((hBa.block _ hc.lt).trans hc)
    have hrra := Boxed.cell ((hBa.block _ hr.lt).trans hr)
    have hWWa : KC w.heap.size W Wa := KC.of hba hB1.size
    have hKWa := below_keeps hba
    have hszW := hB1.size
    obtain ⟨x0a, x1a, x2a⟩ := ocells3 bXa
    clear x0 x1 x2 hc1 hrr1
    cases hk4 : (k == 4) with
    | true =>
      gi_wp2_with fail
      refine ⟨fun _ h => (by cases h), ?_⟩
      gi_wp2_with fail
      refine ⟨trivial, ?_⟩
      refine (CallsIn.inRound l (callsIn_wide.2 (HR.out k n s _ (.inl hk4) hBa))).mono ?_
      rintro e w1 ⟨rfl, hb1⟩
      obtain ⟨R, hR⟩ : ∃ R, rd k n s = R := ⟨_, rfl⟩
      rw [hR]
      obtain ⟨rk, rn, rs⟩ := R
      dsimp only
      have bX1 := (hb1.block _ (lt_of_blk bXa)).trans bXa
      obtain ⟨y0, y1, y2⟩ := ocells3 bX1
      have fX := ofrz bX1
      clear x0a x1a x2a
      gi_wp2_with fail
      refine ⟨trivial, ?_⟩
      obtain ⟨w2, hw2, hq2, hk2, he2, hko2⟩ := oset3 bX1 (.int .i64 rk) (.int .i64 rn) (.string rs)
      rw [hw2]
      clear hw2 y0 y1 y2 fX
      refine (CallsIn.inRound l (callsIn_wide.2 (HI.out rk rn rs w2))).mono ?_
      rintro e w3 ⟨rfl, hb3⟩
      have hX3 := (hb3.block _ (lt_of_blk hq2)).trans hq2
      have hW2 : Below w.heap.size w w2 := (bnext hBa hb1 hBa.size).trans (hk2 _ (by omega))
      have hwW3 : Below w.heap.size w w3 := bnext hW2 hb3 hW2.size
      have hW3 : KC w.heap.size W w3 := ((hWWa.trans (KC.of hb1 hBa.size)).trans (KC.mk (hk2 _ (by omega)))).trans (KC.of hb3 hW2.size)
      have hKo3 : KeepsOthers W w3 := ((hKWa.trans (below_keeps hb1)).trans hko2).trans (below_keeps hb3)
      have hA3 : w3.heap[w.heap.size]? = some (.cells #[.int .i64 0, .int .i64 0, .string nul] 36 (0, 0)) := by
        have h2 : w2.heap[w.heap.size]? = some (.cells #[.int .i64 0, .int .i64 0, .string nul] 36 (0, 0)) := by rw [he2 _ (by omega), hb1.block _ (lt_of_blk hAa)]; exact hAa
        exact (hb3.block _ (lt_of_blk h2)).trans h2
      have bO3 : Boxed w3 (w.heap.size + 1) 23 v := by
        have h2 : w2.heap[w.heap.size + 1]? = some (.cells #[v] 23 (0, 0)) := by rw [he2 _ (by omega), hb1.block _ bOa.lt]; exact bOa
        exact (hb3.block _ (lt_of_blk h2)).trans h2
      have hr3 := own_below (own_keepB (own_below hra hb1) bX1 (by decide) he2) hb3
      have hpl := ovN_len rd ctN pre
      have hsk : skp ctN ⟨k, n, s⟩ = false := by unfold skp; dsimp only; rw [hk4]; rfl
      obtain ⟨y0, y1, y2⟩ := ocells3 hX3
      cases h4 : (rk == 4) with
      | true =>
        have hg : good rd ctN ⟨k, n, s⟩ = false := by unfold good; rw [hsk]; dsimp only; rw [hR]; simp [h4]
        obtain ⟨z0, z1, z2⟩ := ocells3 hA3
        have fA := ofrz hA3
        gi_wp2_with fail
        obtain ⟨w4, hw4, hq4, hk4, he4, hko4⟩ := oset3 hA3 (.int .i64 rk) (.int .i64 rn) (.string rs)
        rw [hw4]
        exact ⟨(hKo3.trans hko4).from _, rfl, ⟨rfl, pre, ⟨k, n, s⟩, rfl, hp, hg, by dsimp only; rw [hR]; exact hq4⟩, hwW3.trans (hk4 _ (Nat.le_refl _))⟩
      | false =>
        have hg : good rd ctN ⟨k, n, s⟩ = true := by unfold good; rw [hsk]; dsimp only; rw [hR]; simp [h4]
        have hcO := bO3.cell
        gi_wp2_with (gi_at_builtin; refine wpListIn_append_own _ rfl _ _ 23 rfl w.heap.size 3 i0 (.int .i64 0) 1 8 Tryz.underlying23 hi hz0 hz1 hz2 rfl (by decide) _ _ _ rfl (hr3.alloc _) ⟨w3.heap.size, 0, none⟩ 1 1 [.int .i64 rn] rfl rfl (cell_one_new _ _ _) (by simp [Value.oneCell']) (by unfold maxLen; omega) (by omega) (by have := hwW3.size; simp; omega) ?_; intro v' w5 hown' hgrow _; obtain ⟨g', cap', rfl⟩ := ownsRow_succ hown'; have hA5 : w5.heap[w.heap.size]? = some (.cells #[.int .i64 0, .int .i64 0, .string nul] 36 (0, 0)) := (hgrow.block _ (by simp; have := lt_of_blk hA3; omega) (blk_not_row hA3 (by decide) hr3)).trans ((Below.heap_alloc _ _ _ (lt_of_blk hA3)).trans hA3); obtain ⟨hv1, hv2, hr2, hk6, hb6⟩ := bO3.appended (by decide) hr3 hwW3.size (by omega) hown' hgrow; have hc5 := hv1.cell; have hf5 := hv1.frozen)
        exact ⟨(hKo3.trans hk6).from _, hW3.trans (KC.mk hb6), ⟨⟨⟨fun y hy => (List.mem_append.1 hy).elim (hp y) (fun e => by simp at e; subst e; exact hg), (oblk_else (by omega)).trans hA5⟩, _, hv2, by rw [ovN_take hsk]; dsimp only; rw [hR]; simpa using hr2, trivial⟩, hwW3.trans hb6⟩⟩
    | false =>
      gi_wp2_with fail
      refine ⟨trivial, ?_⟩
      refine (CallsIn.inRound l (callsIn_wide.2 (HT.out k Wa))).mono ?_
      rintro e Wb ⟨rfl, hbb⟩
      have hBb : Below w.heap.size w Wb := bnext hBa hbb hBa.size
      have hAb := (hbb.block _ (lt_of_blk hAa)).trans hAa
      have bOb : Boxed Wb (w.heap.size + 1) 23 v := (hbb.block _ bOa.lt).trans bOa
      have hrb := own_below hra hbb
      have bXb := (hbb.block _ (lt_of_blk bXa)).trans bXa
      have hrrb := Boxed.cell ((hBb.block _ hr.lt).trans hr)
      have hWWb : KC w.heap.size W Wb := hWWa.trans (KC.of hbb hBa.size)
      have hKWb := hKWa.trans (below_keeps hbb)
      obtain ⟨x0b, x1b, x2b⟩ := ocells3 bXb
      clear x0a x1a x2a hca hrra
      cases hct : ctN k with
      | true =>
        gi_wp2_with fail
        refine ⟨trivial, ?_⟩
        refine (CallsIn.inRound l (callsIn_wide.2 (HR.out k n s _ (.inr hct) hBb))).mono ?_
        rintro e w1 ⟨rfl, hb1⟩
        obtain ⟨R, hR⟩ : ∃ R, rd k n s = R := ⟨_, rfl⟩
        rw [hR]
        obtain ⟨rk, rn, rs⟩ := R
        dsimp only
        have bX1 := (hb1.block _ (lt_of_blk bXb)).trans bXb
        obtain ⟨y0, y1, y2⟩ := ocells3 bX1
        have fX := ofrz bX1
        clear x0b x1b x2b
        gi_wp2_with fail
        refine ⟨trivial, ?_⟩
        obtain ⟨w2, hw2, hq2, hk2, he2, hko2⟩ := oset3 bX1 (.int .i64 rk) (.int .i64 rn) (.string rs)
        rw [hw2]
        clear hw2 y0 y1 y2 fX
        refine (CallsIn.inRound l (callsIn_wide.2 (HI.out rk rn rs w2))).mono ?_
        rintro e w3 ⟨rfl, hb3⟩
        have hX3 := (hb3.block _ (lt_of_blk hq2)).trans hq2
        have hW2 : Below w.heap.size w w2 := (bnext hBb hb1 hBb.size).trans (hk2 _ (by omega))
        have hwW3 : Below w.heap.size w w3 := bnext hW2 hb3 hW2.size
        have hW3 : KC w.heap.size W w3 := ((hWWb.trans (KC.of hb1 hBb.size)).trans (KC.mk (hk2 _ (by omega)))).trans (KC.of hb3 hW2.size)
        have hKo3 : KeepsOthers W w3 := ((hKWb.trans (below_keeps hb1)).trans hko2).trans (below_keeps hb3)
        have hA3 : w3.heap[w.heap.size]? = some (.cells #[.int .i64 0, .int .i64 0, .string nul] 36 (0, 0)) := by
          have h2 : w2.heap[w.heap.size]? = some (.cells #[.int .i64 0, .int .i64 0, .string nul] 36 (0, 0)) := by rw [he2 _ (by omega), hb1.block _ (lt_of_blk hAb)]; exact hAb
          exact (hb3.block _ (lt_of_blk h2)).trans h2
        have bO3 : Boxed w3 (w.heap.size + 1) 23 v := by
          have h2 : w2.heap[w.heap.size + 1]? = some (.cells #[v] 23 (0, 0)) := by rw [he2 _ (by omega), hb1.block _ bOb.lt]; exact bOb
          exact (hb3.block _ (lt_of_blk h2)).trans h2
        have hr3 := own_below (own_keepB (own_below hrb hb1) bX1 (by decide) he2) hb3
        have hpl := ovN_len rd ctN pre
        have hsk : skp ctN ⟨k, n, s⟩ = false := by unfold skp; dsimp only; rw [hk4, hct]; rfl
        obtain ⟨y0, y1, y2⟩ := ocells3 hX3
        cases h4 : (rk == 4) with
        | true =>
          have hg : good rd ctN ⟨k, n, s⟩ = false := by unfold good; rw [hsk]; dsimp only; rw [hR]; simp [h4]
          obtain ⟨z0, z1, z2⟩ := ocells3 hA3
          have fA := ofrz hA3
          gi_wp2_with fail
          obtain ⟨w4, hw4, hq4, hk4, he4, hko4⟩ := oset3 hA3 (.int .i64 rk) (.int .i64 rn) (.string rs)
          rw [hw4]
          exact ⟨(hKo3.trans hko4).from _, rfl, ⟨rfl, pre, ⟨k, n, s⟩, rfl, hp, hg, by dsimp only; rw [hR]; exact hq4⟩, hwW3.trans (hk4 _ (Nat.le_refl _))⟩
        | false =>
          have hg : good rd ctN ⟨k, n, s⟩ = true := by unfold good; rw [hsk]; dsimp only; rw [hR]; simp [h4]
          have hcO := bO3.cell
          gi_wp2_with (gi_at_builtin; refine wpListIn_append_own _ rfl _ _ 23 rfl w.heap.size 3 i0 (.int .i64 0) 1 8 Tryz.underlying23 hi hz0 hz1 hz2 rfl (by decide) _ _ _ rfl (hr3.alloc _) ⟨w3.heap.size, 0, none⟩ 1 1 [.int .i64 rn] rfl rfl (cell_one_new _ _ _) (by simp [Value.oneCell']) (by unfold maxLen; omega) (by omega) (by have := hwW3.size; simp; omega) ?_; intro v' w5 hown' hgrow _; obtain ⟨g', cap', rfl⟩ := ownsRow_succ hown'; have hA5 : w5.heap[w.heap.size]? = some (.cells #[.int .i64 0, .int .i64 0, .string nul] 36 (0, 0)) := (hgrow.block _ (by simp; have := lt_of_blk hA3; omega) (blk_not_row hA3 (by decide) hr3)).trans ((Below.heap_alloc _ _ _ (lt_of_blk hA3)).trans hA3); obtain ⟨hv1, hv2, hr2, hk6, hb6⟩ := bO3.appended (by decide) hr3 hwW3.size (by omega) hown' hgrow; have hc5 := hv1.cell; have hf5 := hv1.frozen)
          exact ⟨(hKo3.trans hk6).from _, hW3.trans (KC.mk hb6), ⟨⟨⟨fun y hy => (List.mem_append.1 hy).elim (hp y) (fun e => by simp at e; subst e; exact hg), (oblk_else (by omega)).trans hA5⟩, _, hv2, by rw [ovN_take hsk]; dsimp only; rw [hR]; simpa using hr2, trivial⟩, hwW3.trans hb6⟩⟩
      | false =>
        have hsk : skp ctN ⟨k, n, s⟩ = true := by unfold skp; dsimp only; rw [hk4, hct]; rfl
        have hg : good rd ctN ⟨k, n, s⟩ = true := by unfold good; rw [hsk]; rfl
        gi_wp2_with fail
        exact ⟨hKWb.from _, hWWb, ⟨⟨⟨fun y hy => (List.mem_append.1 hy).elim (hp y) (fun e => by simp at e; subst e; exact hg), hAb⟩, v, bOb, by rw [ovN_skip hsk]; exact hrb, trivial⟩, hBb⟩⟩
  case done =>
    rintro ys W rfl ⟨⟨⟨hp, hA1⟩, v, bO1, hr1, -⟩, hB1⟩ hK
    rw [hsz] at hK ⊢
    have hcw := Boxed.cell ((hB1.block _ hw.lt).trans hw)
    have hcO := bO1.cell
    have en := hE.out v W
    gi_wp2_with fail
    refine ⟨trivial, ?_⟩
    refine (callsIn_wide.2 (HW.out hp W v hB1 hr1)).mono ?_
    rintro e w1 ⟨rfl, hb1⟩
    have hA3 := (hb1.block _ (lt_of_blk hA1)).trans hA1
    have hK1 := (hb1.block _ (lt_of_blk hK)).trans hK
    have hB3 := bnext hB1 hb1 hB1.size
    obtain ⟨z0, z1, z2⟩ := ocells3 hA3
    have fA := ofrz hA3
    clear en hcw hcO
    gi_wp2_with fail
    obtain ⟨w4, hw4, hq4, hk4, he4, hko4⟩ := oset3 hA3 (.int .i64 r.k) (.int .i64 r.n) (.string r.s)
    rw [hw4]
    have hK4 := hko4.same (w.heap.size + 2) _ hK1 rfl
    refine ⟨by simp, .inl ⟨_, _, rfl, run_takeDeferred hK4, ?_⟩⟩
    obtain ⟨d0, d1, d2⟩ := ocells3 (w := w4.putObj (w.heap.size + 2) (.deferred none)) (blk_own (β := Unit) _ _ _ () w4 _ (some (w.heap.size + 2)) hq4 (grownBy_putObj' _ (w.heap.size + 2) (.deferred none)) (fun r e => by cases e; exact ⟨_, hK4, rfl⟩))
    refine ⟨V r.k r.n r.s, ?_, rfl, (hB3.trans (hk4 _ (Nat.le_refl _))).trans (belowK_b (w := w) (Nat.le_refl _) _ (w.heap.size + 2) _ _ (by omega) hK4 rfl rfl)⟩
    simp [results, Tryz.f106, go_sem, d0, d1, d2]
  case stop =>
    rintro pre W hpre ⟨⟨-, q, x, rfl, hq, hx, hA1⟩, hB1⟩ hK
    rw [hsz] at hK ⊢
    have hrx := hbad.out q x hpre hq hx
    rw [← hrx] at hA1
    gi_wp2_with fail
    refine ⟨by simp, .inl ⟨_, _, rfl, run_takeDeferred hK, ?_⟩⟩
    obtain ⟨d0, d1, d2⟩ := ocells3 (w := W.putObj (w.heap.size + 2) (.deferred none)) (blk_own (β := Unit) _ _ _ () W _ (some (w.heap.size + 2)) hA1 (grownBy_putObj' _ (w.heap.size + 2) (.deferred none)) (fun r e => by cases e; exact ⟨_, hK, rfl⟩))
    refine ⟨V r.k r.n r.s, ?_, rfl, hB1.trans (belowK_b (w := w) (Nat.le_refl _) _ (w.heap.size + 2) _ _ (by omega) hK rfl rfl)⟩
    simp [results, Tryz.f106, go_sem, d0, d1, d2]
end Go.Proofs.YtbiikodnfaeceaaGreatDoor.so
