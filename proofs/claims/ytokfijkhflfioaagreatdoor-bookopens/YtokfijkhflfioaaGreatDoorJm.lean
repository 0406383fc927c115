
/- Package book: Pack; sccsame.Sheets; lists and bytes that were handed in. Conditions: as each theorem says. -/
import Derived.Maps.OwnIn
import Derived.Sort.MapsRangeIn
import Derived.Test.YtokfijkhflfioaaGreatDoorJk
import Derived.DeepKeys4
import Derived.Test.YtokfijkhflfioaaGreatDoorYa
import Derived.ProofKit
import Derived.OpenShut
import Derived.Deep.Slices
import Derived.Deep.Strs
import Derived.Lib.SmallJoins
import Derived.Shelf.SlIter.Collect
import Derived.RangeFuncMany
import Derived.RangeFuncLeaves
import Derived.WalkKit
import Derived.OwnWalkIn
import Derived.TacticsInMore
import Derived.RegionIn
import Derived.LoopNIn
import Derived.LoopIn
import Derived.Shelf.Abstract
import Derived.Shelf.AbstractIn
import Derived.Test.YtokfijkhflfioaaGreatDoorSrt
import Derived.Test.YtokfijkhflfioaaGreatDoorZd
import Derived.BigQuiet
import Derived.Laws.ResultCell
import Derived.Laws.Rows
import Derived.Deep.MidRow

/- A map of the call's own that reads as a list of things, each under its key: looked up, counted, written, deleted from, ranged over. No program is walked here. Conditions: as each theorem says. -/
namespace Go.Proofs.YtokfijkhflfioaaGreatDoor.mpg
open Go Go.Maps
open Go.ChangeMaps (notKey putKey delKey)
/-- Any value, as it lies. -/
def anyR (v : Value) : Option (DataW Value × List MemPlace) := some (.held v, [])
section
variable {P : Program} {k : TypeId} {α : Type} {key val : α → Value} {kl : α → Lit}
def prs (val : α → Value) (kl : α → Lit) (xs : List α) : List (Lit × DataW Value) := xs.map fun x => (kl x, .held (val x))
/-- Entries and things, in any order. -/
structure Lk (P : Program) (k : TypeId) (key val : α → Value) (kl : α → Lit) (es : List (Lit × DataW Value)) (xs : List α) : Prop where
  perm : es.Perm (prs val kl xs)
  keyed : ∀ x ∈ xs, keyOf P k (key x) = some (kl x)
/-- Block b is a map that has all of xs. -/
def MG (P : Program) (k : TypeId) (key val : α → Value) (kl : α → Lit) (w : World) (b : Nat) (xs : List α) : Prop := ∃ es, w.ownsMap P k anyR b xs.length (.map es) ∧ Lk P k key val kl es xs
theorem Lk.len {es : List (Lit × DataW Value)} {xs : List α} (h : Lk P k key val kl es xs) : Maps.size (.map es) = xs.length := by
  show es.length = _
  rw [h.perm.length_eq]
  simp [prs]
theorem tight {w : World} {b n m : Nat} {es : List (Lit × DataW Value)} {R : Value → Option (DataW Value × List MemPlace)} (h : w.ownsMap P k R b n (.map es)) (hm : es.length ≤ m) : w.ownsMap P k R b m (.map es) := by
  obtain ⟨a, clock, h1, h2, h3, h4⟩ := h
  have e : es = (a.toList.map (Go.WideElems.rg P k R)).foldr DataW.insert [] := by cases h4; rfl
  refine ⟨a, clock, h1, h2, ?_, h4⟩
  have := length_sorted (a.toList.map (Go.WideElems.rg P k R))
  rw [← e] at this
  simp at this
  omega
theorem MG.lt {w : World} {b : Nat} {xs : List α} (h : MG P k key val kl w b xs) : b < w.heap.size := by
  obtain ⟨es, h1, -⟩ := h
  exact h1.lt
theorem MG.kept {w w' : World} {row : Option Nat} {b : Nat} {xs : List α} (h : MG P k key val kl w b xs) (hg : w.grownBy w' row) (hne : some b ≠ row) : MG P k key val kl w' b xs := by
  obtain ⟨es, h1, h2⟩ := h
  exact ⟨es, h1.kept hg hne, h2⟩
theorem MG.at {w w' : World} {b : Nat} {xs : List α} (h : MG P k key val kl w b xs) (hb : w'.heap[b]? = w.heap[b]?) : MG P k key val kl w' b xs := by
  obtain ⟨es, ⟨a, clock, h1, h2⟩, h3⟩ := h
  exact ⟨es, ⟨a, clock, hb.trans h1, h2⟩, h3⟩
theorem MG.nil (w : World) : MG P k key val kl (w.alloc (.map #[] 0)) w.heap.size [] :=
  ⟨[], World.ownsMap_made w P k anyR, ⟨List.Perm.refl _, fun _ hx => absurd hx List.not_mem_nil⟩⟩
theorem Lk.mem {es : List (Lit × DataW Value)} {xs : List α} (h : Lk P k key val kl es xs) {p : Lit × DataW Value} : p ∈ es ↔ ∃ x ∈ xs, p = (kl x, .held (val x)) := by
  rw [h.perm.mem_iff]
  unfold prs
  rw [List.mem_map]
  constructor
  · rintro ⟨x, hx, rfl⟩; exact ⟨x, hx, rfl⟩
  · rintro ⟨x, hx, rfl⟩; exact ⟨x, hx, rfl⟩
theorem key_eq (K : Keyed P k) {u v : Value} {a b : Lit} (hu : keyOf P k u = some a) (hv : keyOf P k v = some b) : a.sameKey b = true ↔ u = v := by
  constructor
  · intro h
    have := WideAt.sameKey_eq h
    subst this
    exact K.inj hu hv
  · rintro rfl
    rw [hu] at hv
    cases hv
    exact WideAt.sameKey_self (K.key hu)
theorem Lk.has {es : List (Lit × DataW Value)} {xs : List α} (h : Lk P k key val kl es xs) (K : Keyed P k) {v : Value} {l : Lit} (hl : keyOf P k v = some l) : Maps.has (.map es) l = true ↔ ∃ x ∈ xs, key x = v := by
  rw [has_eq, List.any_eq_true]
  constructor
  · rintro ⟨p, hp, hs⟩
    obtain ⟨x, hx, rfl⟩ := h.mem.1 hp
    exact ⟨x, hx, (key_eq K (h.keyed x hx) hl).1 hs⟩
  · rintro ⟨x, hx, e⟩
    exact ⟨(kl x, .held (val x)), h.mem.2 ⟨x, hx, rfl⟩, (key_eq K (h.keyed x hx) hl).2 e⟩
open Classical in
theorem Lk.filt {es : List (Lit × DataW Value)} {xs : List α} (h : Lk P k key val kl es xs) (K : Keyed P k) {v : Value} {l : Lit} (hl : keyOf P k v = some l) :
    (es.filter (notKey l)).Perm (prs val kl (xs.filter fun x => decide (key x ≠ v))) := by
  refine (h.perm.filter _).trans ?_
  have hk := h.keyed
  clear h
  unfold prs
  rw [List.filter_map]
  have : ∀ x ∈ xs, ((notKey l) ∘ fun x => (kl x, (DataW.held (val x) : DataW Value))) x = decide (key x ≠ v) := fun x hx => by
    show (!(kl x).sameKey l) = _
    have := key_eq K (hk x hx) hl
    cases hs : (kl x).sameKey l
    · have : ¬ key x = v := fun e => by rw [this.2 e] at hs; cases hs
      simp [this]
    · have : key x = v := this.1 hs
      simp [this]
  rw [List.filter_congr this]
theorem insert_perm (x : Lit × DataW Value) : ∀ l : List (Lit × DataW Value), (DataW.insert x l).Perm (x :: l)
  | [] => List.Perm.refl _
  | y :: r => by
    unfold DataW.insert
    split
    · exact List.Perm.refl _
    · exact (List.Perm.cons y (insert_perm x r)).trans (List.Perm.swap x y r)
open Classical in
/-- m[key] = val. -/
theorem MG.put {w' : World} {b n : Nat} {xs ys : List α} {es : List (Lit × DataW Value)} (h : Lk P k key val kl es xs) (K : Keyed P k) {f : α} (hf : keyOf P k (key f) = some (kl f))
    (ho : w'.ownsMap P k anyR b n ((DataW.map es).put (kl f) (.held (val f)))) (hp : ys.Perm (f :: xs.filter fun x => decide (key x ≠ key f))) : MG P k key val kl w' b ys := by
  rw [DataW.put_eq] at ho
  have hq : (putKey (kl f) (.held (val f)) es).Perm (prs val kl ys) := by
    unfold putKey
    refine (insert_perm _ _).trans ?_
    refine (List.Perm.cons _ (h.filt K hf)).trans ?_
    exact (hp.map fun x => (kl x, (DataW.held (val x) : DataW Value))).symm
  refine ⟨_, tight ho (by rw [hq.length_eq]; simp [prs]), hq, fun x hx => ?_⟩
  rcases List.mem_cons.1 (hp.mem_iff.1 hx) with rfl | hx
  · exact hf
  · exact h.keyed x (List.mem_filter.1 hx).1
open Classical in
/-- delete(m, key). -/
theorem MG.del {w' : World} {b n : Nat} {xs ys : List α} {es : List (Lit × DataW Value)} (h : Lk P k key val kl es xs) (K : Keyed P k) {v : Value} {l : Lit} (hl : keyOf P k v = some l)
    (ho : w'.ownsMap P k anyR b n ((DataW.map es).del l)) (hp : ys.Perm (xs.filter fun x => decide (key x ≠ v))) : MG P k key val kl w' b ys := by
  rw [DataW.del_eq] at ho
  have hq : (delKey l es).Perm (prs val kl ys) := (h.filt K hl).trans (hp.map fun x => (kl x, (DataW.held (val x) : DataW Value))).symm
  refine ⟨_, tight ho (by rw [hq.length_eq]; simp [prs]), hq, fun x hx => ?_⟩
  exact h.keyed x (List.mem_filter.1 (hp.mem_iff.1 hx)).1
/-- What a walk over it has met, and what not. -/
structure Met (kl : α → Lit) (xs ps : List α) (left : Lit → Bool) : Prop where
  rest : ∃ rs, (ps ++ rs).Perm xs ∧ ∀ y ∈ xs, left (kl y) = true ↔ y ∈ rs
theorem Lk.apart {w : World} {b n : Nat} {es : List (Lit × DataW Value)} {xs : List α} (h : Lk P k key val kl es xs) (ho : w.ownsMap P k anyR b n (.map es)) (K : Keyed P k) : (xs.map kl).Nodup := by
  obtain ⟨es', e1, h2, h3⟩ := ho.entries K
  cases e1
  have : (es.map (·.1)).Nodup := List.pairwise_map.2 h2
  have hp := h.perm.map (·.1)
  have e : (prs val kl xs).map (·.1) = xs.map kl := by unfold prs; rw [List.map_map]; rfl
  rw [e] at hp
  exact hp.nodup_iff.1 this
theorem Met.start {es : List (Lit × DataW Value)} {xs : List α} (h : Lk P k key val kl es xs) (K : Keyed P k) : Met kl xs [] (Maps.has (.map es)) :=
  ⟨xs, List.Perm.refl _, fun y hy => ⟨fun _ => hy, fun _ => (h.has K (h.keyed y hy)).2 ⟨y, hy, rfl⟩⟩⟩
theorem Met.step {es : List (Lit × DataW Value)} {xs ps : List α} {left : Lit → Bool} (hM : Met kl xs ps left) (h : Lk P k key val kl es xs) (hd : (xs.map kl).Nodup) (K : Keyed P k) {l : Lit} {c : Value} {y : DataW Value × List MemPlace}
    (hl : left l = true) (hv : anyR c = some y) (hat : ∀ zd, (DataW.map es).atKey l zd = y.1) : ∃ z ∈ xs, val z = c ∧ Met kl xs (ps ++ [z]) (fun q => left q && !q.sameKey l) := by
  obtain ⟨rs, hp, hr⟩ := hM.rest
  have hy : y.1 = .held c := by unfold anyR at hv; cases hv; rfl
  have h0 := hat .nil
  rw [hy] at h0
  unfold DataW.atKey at h0
  dsimp only at h0
  cases hfd : es.find? (fun p => p.1.sameKey l) with
  | none => rw [hfd] at h0; cases h0
  | some p =>
    rw [hfd] at h0
    have hs : p.1.sameKey l = true := by have := List.find?_some hfd; simpa using this
    obtain ⟨z, hz, rfl⟩ := h.mem.1 (List.mem_of_find?_eq_some hfd)
    have e1 : kl z = l := WideAt.sameKey_eq hs
    subst e1
    have e2 : val z = c := by cases h0; rfl
    refine ⟨z, hz, e2, ?_⟩
    obtain ⟨a, b, rfl⟩ := List.append_of_mem ((hr z hz).1 hl)
    have hp2 : (ps ++ [z] ++ (a ++ b)).Perm xs := by
      refine List.Perm.trans ?_ hp
      rw [List.append_assoc]
      refine List.Perm.append_left _ ?_
      show (z :: (a ++ b)).Perm _
      exact List.perm_middle.symm
    refine ⟨a ++ b, hp2, fun y hy => ?_⟩
    have hn : (((ps ++ [z] ++ (a ++ b))).map kl).Nodup := (hp2.map kl).nodup_iff.2 hd
    rw [Bool.and_eq_true, hr y hy]
    have hkz := h.keyed z hz
    have hky := h.keyed y hy
    constructor
    · rintro ⟨h1, h2⟩
      have hne : y ≠ z := by
        rintro rfl
        rw [WideAt.sameKey_self (K.key hky)] at h2
        cases h2
      rcases List.mem_append.1 h1 with h1 | h1
      · exact List.mem_append.2 (.inl h1)
      · rcases List.mem_cons.1 h1 with h1 | h1
        · exact absurd h1 hne
        · exact List.mem_append.2 (.inr h1)
    · intro h1
      refine ⟨?_, ?_⟩
      · rcases List.mem_append.1 h1 with h1 | h1
        · exact List.mem_append.2 (.inl h1)
        · exact List.mem_append.2 (.inr (List.mem_cons_of_mem _ h1))
      · cases hs2 : (kl y).sameKey (kl z) with
        | false => rfl
        | true =>
          exfalso
          have e3 := WideAt.sameKey_eq hs2
          rw [List.map_append, List.nodup_append] at hn
          exact hn.2.2 (kl z) (List.mem_map_of_mem (by simp)) (kl y) (List.mem_map_of_mem h1) e3.symm
theorem Met.all {xs ps : List α} {left : Lit → Bool} (hM : Met kl xs ps left) (h0 : ∀ l, left l = false) : ps.Perm xs := by
  obtain ⟨rs, hp, hr⟩ := hM.rest
  have : rs = [] := List.eq_nil_iff_forall_not_mem.2 fun y hy => by
    have := (hr y (hp.mem_iff.1 (List.mem_append.2 (.inr hy)))).2 hy
    rw [h0] at this
    cases this
  subst this
  rwa [List.append_nil] at hp
end
end Go.Proofs.YtokfijkhflfioaaGreatDoor.mpg

/- Package book: the cells of a sheet as a map: what a cell gets, and how many there are; plain, and by the laws of maps. Conditions: as each theorem says. -/
namespace Go.Proofs.YtokfijkhflfioaaGreatDoor.fw
open Go Go.RowKit Go.Sort Go.Maps
theorem bk_laid : laidOutB Tryz.prog = true := by kernel_rfl
theorem key23 : Keyed Tryz.prog 23 := Keyed.of_law (Go.deep_law_laid bk_laid (m := 5) (by decide) (of_decide_eq_true (by kernel_rfl)) (by kernel_rfl) (by kernel_rfl))
abbrev kvF (x : ps.Fl) : Value := adr.C x.c x.r
noncomputable def klF (x : ps.Fl) : Lit := (keyOf Tryz.prog 23 (kvF x)).getD (.bool false)
theorem vcof2 : Tryz.prog.cellsOf 23 = 2 := by kernel_rfl
theorem vcofi : Tryz.prog.cellsOf 3 = 1 := by kernel_rfl
theorem ktype : Tryz.prog.keyType 23 = true := by kernel_rfl
set_option maxRecDepth 100000 in
theorem key_some (c r : Int) (hc : (Lit.int .i64 c).wf = true) (hr : (Lit.int .i64 r).wf = true) : ∃ l, keyOf Tryz.prog 23 (adr.C c r) = some l := by
  have hsz : Tryz.prog.types.size + 1 = 270 + 1 + 1 := by kernel_rfl
  have hi : ∀ n : Int, (Lit.int .i64 n).wf = true → Tryz.prog.keyLits (270 + 1) 3 [.int .i64 n] = some [.int .i64 n] := fun n hn => by
    unfold Program.keyLits
    simp only [Tryz.underlying3]
    rw [if_pos ⟨trivial, hn⟩]
  unfold keyOf
  simp only [Tryz.underlying23, ktype, Value.formed, vcof2, Bool.true_and]
  rw [hsz]
  unfold Program.keyLits
  simp only [Tryz.underlying23, vcof2, Value.cells]
  simp [hi c hc, hi r hr, vcofi]
theorem kl_of {x : ps.Fl} (hc : (Lit.int .i64 x.c).wf = true) (hr : (Lit.int .i64 x.r).wf = true) : keyOf Tryz.prog 23 (kvF x) = some (klF x) := by
  obtain ⟨l, hl⟩ := key_some x.c x.r hc hr
  unfold klF
  rw [hl]
  rfl
open Classical in
theorem wt_filt {xs : List ps.Fl} (hs : ps.Srt xs) (f : ps.Fl) : (ps.wt xs f).Perm (ps.put f ++ xs.filter fun x => decide (kvF x ≠ kvF f)) := by
  have hk : ∀ x y : ps.Fl, kvF x = kvF y ↔ x.c = y.c ∧ x.r = y.r := fun x y => by
    constructor
    · intro h
      have := Value.agg.inj h
      simp at this
      exact this
    · rintro ⟨h1, h2⟩
      unfold kvF
      rw [h1, h2]
  induction xs with
  | nil => show (ps.put f).Perm (ps.put f ++ []); rw [List.append_nil]
  | cons x l ih =>
    obtain ⟨h1, h2⟩ := List.pairwise_cons.1 hs
    have ih := ih h2
    by_cases hlt : ps.lt x f.c f.r = true
    · have hne : kvF x ≠ kvF f := fun e => by
        have := (hk x f).1 e
        rw [ps.lt_iff] at hlt
        omega
      rw [show ps.wt (x :: l) f = x :: ps.wt l f by show (if _ then _ else _) = _; rw [if_pos hlt], List.filter_cons_of_pos (by rw [decide_eq_true_eq]; exact hne)]
      exact (List.Perm.cons x ih).trans (List.perm_middle (l₁ := ps.put f)).symm
    · have hrest : ∀ y ∈ l, kvF y ≠ kvF f := fun y hy e => by
        have e2 := (hk y f).1 e
        have h3 := h1 y hy
        rw [e2.1, e2.2] at h3
        exact hlt h3
      have hf : l.filter (fun x => decide (kvF x ≠ kvF f)) = l := List.filter_eq_self.2 fun y hy => decide_eq_true (hrest y hy)
      by_cases hat : ps.at' x f.c f.r = true
      · have he : kvF x = kvF f := (hk x f).2 (ps.at_iff.1 hat)
        rw [show ps.wt (x :: l) f = ps.put f ++ l by show (if _ then _ else _) = _; rw [if_neg hlt, if_pos hat], List.filter_cons_of_neg (by rw [decide_eq_true_eq]; exact fun h => h he), hf]
      · have hne : kvF x ≠ kvF f := fun e => hat (ps.at_iff.2 ((hk x f).1 e))
        rw [show ps.wt (x :: l) f = ps.put f ++ x :: l by show (if _ then _ else _) = _; rw [if_neg hlt, if_neg hat], List.filter_cons_of_pos (by rw [decide_eq_true_eq]; exact hne), hf]
abbrev MP (w : World) (b : Nat) (xs : List ps.Fl) : Prop := mpg.MG Tryz.prog 23 kvF FVv klF w b xs
theorem under_page : Tryz.prog.underlying 62 = some (.map 23 25) := by kernel_rfl
theorem zeroF (w : World) : (zeroValue 25).run Tryz.prog w = .ok (.agg #[.int .i64 0, .int .i64 0, .string nul]) w := by kernel_rfl
theorem kv_iff {x y : ps.Fl} : kvF x = kvF y ↔ x.c = y.c ∧ x.r = y.r := by
  constructor
  · intro h
    have := Value.agg.inj h
    simp at this
    exact this
  · rintro ⟨h1, h2⟩
    unfold kvF
    rw [h1, h2]
/-- Is a cell among these? -/
def hasC (xs : List ps.Fl) (c r : Int) : Bool := xs.any fun x => ps.at' x c r
theorem hasC_iff {xs : List ps.Fl} {c r : Int} : hasC xs c r = true ↔ ∃ x ∈ xs, x.c = c ∧ x.r = r := by
  unfold hasC
  rw [List.any_eq_true]
  constructor
  · rintro ⟨x, hx, h⟩; exact ⟨x, hx, ps.at_iff.1 h⟩
  · rintro ⟨x, hx, h⟩; exact ⟨x, hx, ps.at_iff.2 h⟩
/-- How many cells there are then. -/
theorem wt_len {xs : List ps.Fl} (hs : ps.Srt xs) (f : ps.Fl) (hf : f.s.size ≠ 0) : (ps.wt xs f).length = if hasC xs f.c f.r = true then xs.length else xs.length + 1 := by
  induction xs with
  | nil => show (ps.put f).length = _; rw [ps.put_one hf]; rfl
  | cons x l ih =>
    obtain ⟨h1, h2⟩ := List.pairwise_cons.1 hs
    have ih := ih h2
    have hc : hasC (x :: l) f.c f.r = (ps.at' x f.c f.r || hasC l f.c f.r) := rfl
    by_cases hlt : ps.lt x f.c f.r = true
    · have hat : ps.at' x f.c f.r = false := by
        rw [ps.at_no]
        rw [ps.lt_iff] at hlt
        omega
      rw [show ps.wt (x :: l) f = x :: ps.wt l f by show (if _ then _ else _) = _; rw [if_pos hlt], List.length_cons, ih, hc, hat, Bool.false_or]
      split <;> rfl
    · by_cases hat : ps.at' x f.c f.r = true
      · rw [show ps.wt (x :: l) f = ps.put f ++ l by show (if _ then _ else _) = _; rw [if_neg hlt, if_pos hat], hc, hat, ps.put_one hf]
        rfl
      · have hno : hasC l f.c f.r = false := by
          rw [Bool.eq_false_iff]
          intro h
          obtain ⟨y, hy, e1, e2⟩ := hasC_iff.1 h
          have h3 := h1 y hy
          rw [e1, e2] at h3
          exact hlt h3
        have hat' : ps.at' x f.c f.r = false := by simpa using hat
        rw [show ps.wt (x :: l) f = ps.put f ++ x :: l by show (if _ then _ else _) = _; rw [if_neg hlt, if_neg hat], hc, hno, hat', ps.put_one hf]
        rfl
theorem wt_nul_len {xs : List ps.Fl} (f : ps.Fl) (hf : f.s.size = 0) : (ps.wt xs f).length ≤ xs.length := by
  induction xs with
  | nil => show (ps.put f).length ≤ _; rw [ps.put_nul hf]; exact Nat.le_refl _
  | cons x l ih =>
    unfold ps.wt
    rw [ps.put_nul hf]
    split
    · simp only [List.length_cons]; omega
    · split <;> simp
end Go.Proofs.YtokfijkhflfioaaGreatDoor.fw

/- A list of cells with their texts that was handed in. Conditions: as each theorem says. -/
namespace Go.Proofs.YtokfijkhflfioaaGreatDoor.ps
open Go.ChangeShapes Go.WideShapes Go.ChangeAt Go.RowKit
theorem vcof3 : Tryz.prog.cellsOf 3 = 1 := by kernel_rfl
theorem vcof9 : Tryz.prog.cellsOf 9 = 1 := by kernel_rfl
theorem vcof30 : Tryz.prog.cellsOf 23 = 2 := by kernel_rfl
theorem vcof33 : Tryz.prog.cellsOf 25 = 3 := by kernel_rfl
theorem add_plain (g o k : Nat) : (⟨g, o, none⟩ : Addr).add k = ⟨g, o + k, none⟩ := by
  unfold Addr.add
  by_cases h : k = 0 <;> simp [h]
theorem l2 {α : Type} {l : List α} (h : l.length = 2) : ∃ a b, l = [a, b] := by
  match l, h with
  | [a, b], _ => exact ⟨a, b, rfl⟩
theorem l3 {α : Type} {l : List α} (h : l.length = 3) : ∃ a b c, l = [a, b, c] := by
  match l, h with
  | [a, b, c], _ => exact ⟨a, b, c, rfl⟩
theorem flF_inv {xs : List Fl} {t : Nat} {u : Value} (h : (flF xs)[t]? = some u) : ∃ i j x, t = i * 3 + j ∧ j < 3 ∧ xs[i]? = some x ∧ (fl3 x)[j]? = some u := by
  have hl := (List.getElem?_eq_some_iff.1 h).1
  rw [flF_len] at hl
  have hi : t / 3 < xs.length := by omega
  have hx : xs[t / 3]? = some (xs[t / 3]) := List.getElem?_eq_getElem hi
  have hj : t % 3 < 3 := Nat.mod_lt _ (by decide)
  have e : t = t / 3 * 3 + t % 3 := by omega
  obtain ⟨v, hv⟩ : ∃ v, (fl3 (xs[t / 3]))[t % 3]? = some v := ⟨_, List.getElem?_eq_getElem (show t % 3 < (fl3 (xs[t / 3])).length from hj)⟩
  have := flF_at hx hv
  rw [← e, h] at this
  injection this with this
  subst this
  exact ⟨t / 3, t % 3, _, e, hj, hx, hv⟩
section
variable {H : Type} {enc : TypeId × Value → H} {W : World} {base : Nat} {spare : Nat → Bool} {held : Bool}
set_option maxRecDepth 100000 in
theorem cell_trod {fuel : Nat} {cs : List Value} {x : DataW H × List MemPlace} (h : DataW.trod enc Tryz.prog W base spare held fuel 23 cs = some x) :
    ∃ (c r : Int), cs = [.int .i64 c, .int .i64 r] := by
  obtain ⟨y0, y1, n, rfl, hl, h0, h1⟩ := trod_struct2 Tryz.underlying23 h
  obtain ⟨a, b, rfl⟩ := l2 (hl.trans vcof30)
  simp only [vcof3, List.drop_zero, List.drop_succ_cons, List.take_succ_cons, List.take_zero] at h0 h1
  obtain ⟨c, e0, -, -⟩ := DataW.trod_int Tryz.underlying3 h0
  obtain ⟨r, e1, -, -⟩ := DataW.trod_int Tryz.underlying3 h1
  simp at e0 e1
  subst e0 e1
  exact ⟨c, r, rfl⟩
set_option maxRecDepth 100000 in
theorem fl_trod {fuel : Nat} {cs : List Value} {x : DataW H × List MemPlace} (h : DataW.trod enc Tryz.prog W base spare held fuel 25 cs = some x) :
    ∃ f : Fl, cs = fl3 f := by
  obtain ⟨y0, y1, n, rfl, hl, h0, h1⟩ := trod_struct2 Tryz.underlying25 h
  obtain ⟨a, b, d, rfl⟩ := l3 (hl.trans vcof33)
  simp only [vcof30, vcof9, List.drop_zero, List.drop_succ_cons, List.take_succ_cons, List.take_zero] at h0 h1
  obtain ⟨c, r, e0⟩ := cell_trod h0
  obtain ⟨s, e1, -, -⟩ := DataW.trod_string Tryz.underlying9 h1
  simp at e0 e1
  obtain ⟨rfl, rfl⟩ := e0
  subst e1
  exact ⟨⟨c, r, s⟩, rfl⟩
set_option maxRecDepth 100000 in
theorem open_fills {r0 : Reach} {b0 : Nat} {v : Value} {d : DataW H} {q : List MemPlace} (hv : Value.okWide Tryz.prog W r0 b0 26 v) (h : DataW.Trod enc Tryz.prog W 0 spare held 26 v d q) :
    ∃ (p : Option Addr) (xs : List Fl) (cap : Nat), v = .slice p xs.length cap ∧ FM W p xs ∧ (p = none → cap = 0) := by
  obtain ⟨p, len, cap, rfl⟩ := okWide_slice Tryz.underlying26 hv
  obtain ⟨fuel, hf⟩ := h
  rcases Go.Deep.open_slice Tryz.underlying26 hf with ⟨e, -⟩ | ⟨a, len', cap', m, n, D, Pl, e, -, hlc, hcm, hm, -, hel⟩
  · simp [Value.cells] at e
    obtain ⟨rfl, rfl, rfl⟩ := e
    exact ⟨none, [], 0, rfl, .inl rfl, fun _ => rfl⟩
  simp [Value.cells] at e
  obtain ⟨rfl, rfl, rfl⟩ := e
  have hle : len ≤ m := by rw [hm]; split <;> omega
  rw [vcof33] at hel
  haveI : Inhabited Fl := ⟨⟨0, 0, nul⟩⟩
  obtain ⟨F, hF⟩ := Go.Deep.choose_lt (α := Fl) (n := len) (p := fun i y => W.cells? 0 (a.add (i * 3)) 3 = some (fl3 y)) (fun i hi => by
    obtain ⟨cs', g1, g2⟩ := hel i (by omega)
    obtain ⟨f, rfl⟩ := fl_trod g2
    exact ⟨f, g1⟩)
  have hlen : ((List.range len).map F).length = len := by simp
  refine ⟨some a, (List.range len).map F, cap, by rw [hlen], ?_, fun e => by cases e⟩
  by_cases h0 : len = 0
  · left; subst h0; rfl
  right
  have hc0 : ∀ i, i < len → ∀ j, j < 3 → W.cell? (a.add (i * 3 + j)) = (fl3 (F i))[j]? := fun i hi j hj => by
    have := (World.cells?_some (hF i hi)).2.2 j hj
    rw [Go.Deep.add_add] at this
    exact this
  have hsp : W.cell? a = some (.int .i64 (F 0).c) := by
    have := hc0 0 (by omega) 0 (by omega)
    simpa [Addr.add] using this
  have hspot := World.cell?_spot hsp
  obtain ⟨g, o, sp⟩ := a
  simp only at hspot
  subst hspot
  refine ⟨g, o, rfl, ?_, fun t u hu => ?_⟩
  · unfold World.cell? at hsp
    rcases Nat.lt_or_ge g W.heap.size with h | h
    · exact h
    · rw [Array.getElem?_eq_none h] at hsp
      simp at hsp
  · obtain ⟨i, j, x, rfl, hj, hx, hu'⟩ := flF_inv hu
    have hi : i < len := by have := (List.getElem?_eq_some_iff.1 hx).1; rw [hlen] at this; exact this
    have hxF : x = F i := by
      rw [List.getElem?_map, List.getElem?_range hi] at hx
      simpa using hx.symm
    subst hxF
    have := hc0 i hi j hj
    rw [add_plain, hu'] at this
    exact this
end
end Go.Proofs.YtokfijkhflfioaaGreatDoor.ps

/- The values of a map, collected: maps.Values and its iterator, slices.AppendSeq, slices.Collect, at a map of cells with their texts. Conditions: as each theorem says. -/
namespace Go.Proofs.YtokfijkhflfioaaGreatDoor.fw
open Go Go.RowKit Go.Sort Go.Maps Go.Shelf
theorem mg_walks {w w' : World} {b : Nat} {xs : List ps.Fl} (h : MP w b xs) (hk : KeepsWalks w w') : MP w' b xs := by
  obtain ⟨es, ⟨a, clock, h1, h2⟩, h3⟩ := h
  exact ⟨es, ⟨a, clock, hk.same b _ h1 rfl, h2⟩, h3⟩
set_option maxRecDepth 1000000 in
set_option maxHeartbeats 8000000 in
theorem valuesN_in (F : Fence) (n : Nat) (h8 : F.fn 54) (hro : F.round = none) (hn : 1 ≤ n) (l Bm b : Nat) (xs : List ps.Fl) (J : List ps.Fl → World → Prop)
    (hY : ∀ pre x W, J pre W → pre.length < xs.length → YieldAt F (n - 1) Tryz.prog l #[FVv x] W fun e W' => e = .returned (.bool true) ∧ J (pre ++ [x]) W' ∧ KeepsWalks W W')
    (W : World) (hJ : AbidesFrom W.heap.size J) (hm : W.cell? ⟨Bm, 0, none⟩ = some (.map (some b))) (hM : MP W b xs) (h0 : J [] W) :
    CallsIn F n Tryz.prog 54 #[.func (.yield l) #[] #[], .pointer (some ⟨Bm, 0, none⟩)] W fun e W' => (∃ v, e = .returned v) ∧ ∃ ys : List ps.Fl, ys.Perm xs ∧ J ys W' := by
  obtain ⟨es, hown, hlk⟩ := hM
  have hap := hlk.apart hown key23
  have hlen : Maps.size (.map es) = xs.length := hlk.len
  refine callsIn_of_wp Tryz.func54 rfl h8 ?_ hro
  simp only [Tryz.ntmps54, List.size_toArray, List.length_cons, List.length_nil, Nat.reduceAdd, Nat.reduceSub, Array.replicate_succ, Array.replicate_zero, List.push_toArray, List.append_toArray, List.nil_append, List.cons_append]
  gi_wp2_with (first
    | (gi_at_range; refine wpListIn_range_own _ rfl _ 62 rfl 23 25 key23 under_page _ b xs.length _ rfl hown ?_; intro w0 hrg0 hg0 hs0)
    | gi_in)
  go_frame
  gi_loopw [4] (fun _ wr => ∃ (left : Lit → Bool) (cnt : Nat) (ps' : List ps.Fl), wr.ranges Tryz.prog 23 mpg.anyR b W.heap.size xs.length (.map es) left cnt ∧ ps'.length + cnt ≤ xs.length ∧ mpg.Met klF xs ps' left ∧ J ps' wr)
    (fun _ wr => wr.rangeLeft b W.heap.size)
  case atStart =>
    exact ⟨_, _, [], hrg0, by rw [hlen]; simp, mpg.Met.start hlk key23, hJ [] W w0 none h0 hg0 (fun r e => by cases e)⟩
  case round =>
    obtain ⟨left, cnt, ps', hrg, hcs, hC, hJs⟩ := hrel
    gi_wp2_with (first
      | (gi_at_next; refine wpListIn_next_ranges _ rfl _ rfl 23 key23 mpg.anyR id id (fun key kl hk => ⟨key, rfl⟩) (fun v _ _ => ⟨v, rfl⟩) b W.heap.size xs.length _ _ _ rfl hrg ?_ ?_)
      | gi_in)
    · intro hc0 hl0
      gi_wp2
      go_end0
      exact ⟨⟨_, rfl⟩, ps', hC.all hl0, hJs⟩
    · intro x c kl yd yp w2 cnt2 hkey hlk2 hv hat hrg2 hlt hg2 hs2 hen
      obtain ⟨z, hz, hzc, hM2⟩ := hC.step hlk hap key23 hlk2 hv hat
      subst hzc
      have hJ2 : J ps' w2 := hJ ps' wr w2 (some W.heap.size) hJs hg2 (fun r e => by cases e; exact ⟨Nat.le_refl _, hrg.iter_walk⟩)
      have hJ3 : J ps' (w2.alloc (.cells #[.int .i64 z.c, .int .i64 z.r, .string z.s] 25)) := hJ ps' w2 _ none hJ2 (World.grownBy_alloc _ _ none) (fun r e => by cases e)
      obtain ⟨fn, tmps, assign, body, hy, hR⟩ := hY ps' z _ hJ3 (by omega)
      dsimp only [FVv] at hy hen
      have hrg3 := hrg2.alloc (.cells #[.int .i64 z.c, .int .i64 z.r, .string z.s] 25)
      obtain ⟨y0, y1, y2⟩ := cells3q (heap_alloc_new w2 (.cells #[.int .i64 z.c, .int .i64 z.r, .string z.s] 25))
      have hsz : (w2.alloc (.cells #[.int .i64 z.c, .int .i64 z.r, .string z.s] 25)).heap.size = w2.heap.size + 1 := by simp
      clear hs2
      dsimp only [id, FVv]
      gi_wp2
      refine hR.mono ?_
      rintro e W3 ⟨rfl, hJ4, hk3⟩
      gi_wp2
      have hrg4 := hrg3.of_walks hk3
      go_roundw
      case rel => exact ⟨_, cnt2, ps' ++ [z], hrg4, by simp; omega, hM2, hJ4⟩
      case measure => rw [hrg4.left_eq, hrg.left_eq]; exact hlt
/-- maps.Values(m): the map is boxed; the function value captures the box. -/
theorem values_in (F : Fence) (n : Nat) (hf : F.fn 37) (hro : F.round = none) (mb : Option Nat) (w : World) :
    CallsIn F n Tryz.prog 37 #[.map mb] w fun e w' => e = .returned (.func (.func 54) #[] #[.pointer (some ⟨w.heap.size, 0, none⟩)]) ∧ w' = w.alloc (.cells #[.map mb] 62) := by
  refine callsIn_of_wp Tryz.func37 rfl hf ?_ hro
  simp only [Tryz.ntmps37, List.size_toArray, List.length_cons, List.length_nil, Nat.reduceAdd, Nat.reduceSub, Array.replicate_succ, Array.replicate_zero, List.push_toArray, List.append_toArray, List.nil_append, List.cons_append]
  gi_wp2
  go_ret
  exact ⟨rfl, rfl⟩
/-- maps.Values(m) HANDS BACK A VALUE THAT GIVES the map's cells with their texts. -/
theorem values_gives (F : Fence) (n : Nat) (h8 : F.fn 54) (hro : F.round = none) (hn : 1 ≤ n) (Bm b : Nat) (xs : List ps.Fl) (w : World) (hBm : Bm < w.heap.size) (hm : w.cell? ⟨Bm, 0, none⟩ = some (.map (some b))) (hM : MP w b xs) :
    SeqGives F n Tryz.prog 54 #[.pointer (some ⟨Bm, 0, none⟩)] FVv (fun ys => ys.Perm xs) xs.length w := fun l J W hW hJ hY h0 =>
  valuesN_in F n h8 hro hn l Bm b xs J hY W hJ ((hW.cell (p := ⟨Bm, 0, none⟩) hBm).trans hm) (hM.at (hW.block b hM.lt)) h0
/-! ### slices.AppendSeq(nil, seq) -/
def apAssign : Code := (Code.region 2 #[{ dst := some 5, op := Op.alloc 25, type := 0, pos := "iter.go:51", after := #[], guard := none }, { dst := none, op := Op.store 25 (Operand.tmp 5) (Operand.tmp 7), type := 0, pos := "iter.go:51", after := #[{ on := 0, ground := Ground.data }, { on := 0, ground := Ground.phase }], guard := none }] false)
def apBody : Code := (Code.block 1 (Code.region 3 #[{ dst := some 8, op := Op.load 26 (Operand.tmp 2), type := 26, pos := "iter.go:52", after := #[], guard := none }, { dst := some 9, op := Op.load 25 (Operand.tmp 5), type := 25, pos := "iter.go:52", after := #[], guard := none }, { dst := some 10, op := Op.buildSlice 26 1 #[(0, Operand.tmp 9)], type := 26, pos := "iter.go:52", after := #[{ on := 1, ground := Ground.data }], guard := none }, { dst := some 11, op := Op.call { callee := Callee.builtin Builtin.append, args := #[Operand.tmp 8, Operand.tmp 10], argTypes := #[26, 26] }, type := 26, pos := "iter.go:52", after := #[{ on := 0, ground := Ground.data }, { on := 2, ground := Ground.data }], guard := none }, { dst := none, op := Op.store 26 (Operand.tmp 2) (Operand.tmp 11), type := 0, pos := "iter.go:52", after := #[{ on := 3, ground := Ground.data }, { on := 3, ground := Ground.chain }, { on := 0, ground := Ground.phase }, { on := 1, ground := Ground.phase }, { on := 2, ground := Ground.phase }, { on := 3, ground := Ground.phase }], guard := none }] false))
/-- The loop's record: AppendSeq's temporaries as they stood at the entering. -/
def apRec (fn : FuncId) (sv : Value) (Bs D : Nat) (st : LoopState) (pend : Option Code) : Loop :=
  { state := st, pending := pend, fn, tmps := #[.slice none 0 0, sv, .pointer (some ⟨Bs, 0, none⟩), undef, .slice none 0 0, undef, sv, undef, undef, undef, undef, undef, undef], params := #[7], assign := apAssign, body := apBody, defers := D }
/-- Between two rounds. -/
structure ApAt (w0 : World) (fn : FuncId) (sv : Value) (Bs l D : Nat) (ss : List ps.Fl) (W : World) : Prop where
  box : ∃ v, W.heap[Bs]? = some (.cells #[v] 26 (0, 0)) ∧ W.ownsRow w0.heap.size 25 3 v ss.length (ps.flF ss)
  L : W.heap[l]? = some (.loop (apRec fn sv Bs D .ready none))
  K : W.heap[D]? = some (.deferred (some []))
  below : Below w0.heap.size w0 W
theorem ap_abides (w0 : World) (fn : FuncId) (sv : Value) (Bs l D B : Nat) (hB : w0.heap.size ≤ B) : AbidesFrom B (ApAt w0 fn sv Bs l D) := fun s W W' row h hg hrow => by
  have hrow' : ∀ r, row = some r → ∃ o : Obj, W.heap[r]? = some o ∧ o.isWalk = true := fun r e => (hrow r e).2
  obtain ⟨v, hv, hr⟩ := h.box
  exact ⟨⟨v, (grownBy_keeps hg hrow' hv rfl).trans hv, ownsRow_abides_a hr hg hrow'⟩, (grownBy_keeps hg hrow' h.L rfl).trans h.L, (grownBy_keeps hg hrow' h.K rfl).trans h.K,
    h.below.grown hg h.below.size (fun k e => Nat.le_trans hB (hrow k e).1)⟩
theorem infoFl : (Tryz.prog.info? 25).map (fun i => (i.zero, i.size, i.bytes)) = some (some (.agg #[.int .i64 0, .int .i64 0, .string nul]), 3, 32) := by kernel_rfl
theorem flF_snoc (ss : List ps.Fl) (x : ps.Fl) : ps.flF (ss ++ [x]) = ps.flF ss ++ ps.fl3 x := by unfold ps.flF; rw [List.flatMap_append]; simp
set_option maxRecDepth 1000000 in
set_option maxHeartbeats 8000000 in
theorem ap_yield (F : Fence) (m : Nat) (w0 : World) (fn : FuncId) (hfn : F.fn fn) (sv : Value) (Bs l D : Nat) (hBl : Bs ≠ l) (hDl : D ≠ l) (hDB : D ≠ Bs) (h0B : w0.heap.size ≤ Bs) (h0l : w0.heap.size ≤ l)
    (N : Nat) (hN : N ≤ 1000) (ss : List ps.Fl) (x : ps.Fl) (W : World) (h : ApAt w0 fn sv Bs l D ss W) (hlen : ss.length < N) :
    YieldAt F m Tryz.prog l #[FVv x] W fun e W' => e = .returned (.bool true) ∧ ApAt w0 fn sv Bs l D (ss ++ [x]) W' ∧ KeepsWalks W W' := by
  have hne : (26 : Nat) ≠ 25 := by decide
  obtain ⟨i0, hi, hz0, hz1, hz2⟩ := info_parts infoFl
  refine ⟨fn, #[.slice none 0 0, sv, .pointer (some ⟨Bs, 0, none⟩), undef, .slice none 0 0, undef, sv, FVv x, undef, undef, undef, undef, undef], apAssign, apBody, by simpa [apRec] using run_yield (P := Tryz.prog) (args := #[FVv x]) h.L rfl, roundIn_of_wpIn hfn ?_⟩
  obtain ⟨W1, hW1⟩ : ∃ W1, W.alloc (.cells #[.int .i64 x.c, .int .i64 x.r, .string x.s] 25) = W1 := ⟨_, rfl⟩
  have h1 : ApAt w0 fn sv Bs l D ss W1 := by
    rw [← hW1]
    exact ap_abides w0 fn sv Bs l D w0.heap.size (Nat.le_refl _) ss W _ none h (World.grownBy_alloc _ _ none) (fun r e => by cases e)
  have hkw : KeepsWalks W W1 := by rw [← hW1]; exact KeepsWalks.alloc _ _
  have hx1 : W1.heap[W.heap.size]? = some (.cells #[.int .i64 x.c, .int .i64 x.r, .string x.s] 25) := by rw [← hW1]; exact heap_alloc_new W _
  have h0W : w0.heap.size ≤ W.heap.size := h.below.size
  have hWl : ∀ {j : Nat} {o : Obj}, W.heap[j]? = some o → j ≠ W.heap.size := fun hj e => by
    have := (Array.getElem?_eq_some_iff.1 hj).1
    omega
  have hnl := hWl h.L
  have hnD := hWl h.K
  have hnB := hWl h.box.choose_spec.1
  unfold apAssign
  dsimp only [FVv]
  gi_wp2_with (rw [Oper.semAt_eq _ _ _ (fun c h => by cases h)]; go_simp; try go_bits)
  obtain ⟨v, hv, hrow⟩ := h1.box
  have hl : l < W1.heap.size := (Array.getElem?_eq_some_iff.1 h1.L).1
  have hbr := run_beginRound (P := Tryz.prog) h1.L rfl
  obtain ⟨W2, hW2⟩ : ∃ W2, W1.putObj l (.loop { apRec fn sv Bs D .ready none with state := .busy }) = W2 := ⟨_, rfl⟩
  rw [hW2] at hbr
  refine ⟨W2, hbr, ?_⟩
  have hg2 : W1.grownBy W2 (some l) := by rw [← hW2]; exact grownBy_putObj_a _ _ _
  have hk2 : KeepsWalks W1 W2 := by rw [← hW2]; exact KeepsWalks.putObj _ h1.L rfl
  have hv2 : W2.heap[Bs]? = some (.cells #[v] 26 (0, 0)) := by rw [← hW2]; exact (World.putObj_heap_other hBl).trans hv
  have hx2 : W2.heap[W.heap.size]? = some (.cells #[.int .i64 x.c, .int .i64 x.r, .string x.s] 25) := by rw [← hW2]; exact (World.putObj_heap_other (fun e => hnl e.symm)).trans hx1
  have hK2 : W2.heap[D]? = some (.deferred (some [])) := by rw [← hW2]; exact (World.putObj_heap_other hDl).trans h1.K
  have hL2 : W2.heap[l]? = some (.loop { apRec fn sv Bs D .ready none with state := .busy }) := by rw [← hW2]; exact World.putObj_heap_same hl
  have hrow2 : W2.ownsRow w0.heap.size 25 3 v ss.length (ps.flF ss) := hrow.kept hg2 (ownsRow_ne_a hrow h1.L (fun cur e => by cases e))
  have hb2 : Below w0.heap.size w0 W2 := h1.below.grown hg2 h1.below.size (fun k e => by cases e; exact h0l)
  obtain ⟨hc2, hf2⟩ := cell_of_box_a hv2
  obtain ⟨q0, q1, q2⟩ := cells3q hx2
  have hBlt : Bs < W2.heap.size := (Array.getElem?_eq_some_iff.1 hv2).1
  have hl2 : l < W2.heap.size := (Array.getElem?_eq_some_iff.1 hL2).1
  have hDlt : D < W2.heap.size := (Array.getElem?_eq_some_iff.1 hK2).1
  have ne_of : ∀ {j : Nat} {o : Obj}, W2.heap[j]? = some o → (∀ cur, o ≠ .cells cur 25 (0, 0)) → some j ≠ v.ownBlock := fun hj hno => by
    rcases ownsRow_ne_a hrow2 hj hno with e | e
    · rw [e]; simp
    · exact fun e' => e e'.symm
  have hmax : maxLen = 9223372036854775807 := rfl
  clear hW2 hW1
  unfold apBody
  gi_wp2_with (first
    | (gi_at_builtin; refine wpListIn_append_own _ rfl _ _ 26 rfl w0.heap.size 25 i0 (.agg #[.int .i64 0, .int .i64 0, .string nul]) 3 32 Tryz.underlying26 hi hz0 hz1 hz2 rfl (by decide) _ _ _ rfl (hrow2.alloc _) ⟨W2.heap.size, 0, none⟩ 1 1 (ps.fl3 x) rfl rfl (World.news_of_block (heap_alloc_new W2 _)) (by simp [Value.oneCell', ps.fl3]) (by omega) (by omega) (by have := hb2.size; simp; omega) ?_; intro v' w3 hown' hg3 hnil3
       have hv3 : w3.heap[Bs]? = some (.cells #[v] 26 (0, 0)) := (hg3.block Bs (by simp; omega) (ne_of hv2 (fun cur e => by cases e))).trans ((Below.heap_alloc _ _ Bs hBlt).trans hv2)
       obtain ⟨hc3, hf3⟩ := cell_of_box_a hv3
       obtain ⟨g', cap', cur', rfl, hbase', hgb', hr1, hr2, hr3, hr4⟩ : ∃ g' cap' cur', v' = .slice (some ⟨g', 0, none⟩) (ss.length + 1) cap' ∧ w0.heap.size ≤ g' ∧ w3.heap[g']? = some (.cells cur' 25 (0, 0)) ∧ ss.length + 1 ≤ cap' ∧ cap' ≤ maxLen ∧ cur'.size = cap' * 3 ∧ cur'.toList.take ((ss.length + 1) * 3) = ps.flF ss ++ ps.fl3 x := by
         rcases hown'.2 with ⟨_, h0⟩ | h'
         · exact absurd h0 (by omega)
         · exact h'
       go_frame)
    | (rw [Oper.semAt_eq _ _ _ (fun c h => by cases h)]; go_simp; try go_bits))
  have hg3' : (W2.alloc (.cells #[.int .i64 x.c, .int .i64 x.r, .string x.s] 25)).grownBy w3 v.ownBlock := hg3
  have hL3 : w3.heap[l]? = some (.loop { apRec fn sv Bs D .ready none with state := .busy }) := (hg3'.block l (by simp; omega) (ne_of hL2 (fun cur e => by cases e))).trans ((Below.heap_alloc _ _ l hl2).trans hL2)
  have hK3 : w3.heap[D]? = some (.deferred (some [])) := (hg3'.block D (by simp; omega) (ne_of hK2 (fun cur e => by cases e))).trans ((Below.heap_alloc _ _ D hDlt).trans hK2)
  obtain ⟨w4, hw4⟩ : ∃ w4, w3.setCell ⟨Bs, 0, none⟩ (.slice (some ⟨g', 0, none⟩) (ss.length + 1) cap') = w4 := ⟨_, rfl⟩
  rw [hw4]
  have hg4 : w3.grownBy w4 (some Bs) := by rw [← hw4]; exact grownBy_setCell0_a _ _ _
  have hv4 : w4.heap[Bs]? = some (.cells #[.slice (some ⟨g', 0, none⟩) (ss.length + 1) cap'] 26 (0, 0)) := by rw [← hw4]; exact heap_setCell_box_a _ hv3
  have hL4 : w4.heap[l]? = some (.loop { apRec fn sv Bs D .ready none with state := .busy }) := (hg4.block l (Array.getElem?_eq_some_iff.1 hL3).1 (fun e => hBl (by cases e; rfl))).trans hL3
  have hK4 : w4.heap[D]? = some (.deferred (some [])) := (hg4.block D (Array.getElem?_eq_some_iff.1 hK3).1 (fun e => hDB (by cases e; rfl))).trans hK3
  have hrow4 := hown'.kept hg4 (ownsRow_ne_a hown' hv3 (fun cur e => by cases e))
  have hl4 : l < w4.heap.size := (Array.getElem?_eq_some_iff.1 hL4).1
  have hb3 : Below w0.heap.size w0 w3 := (hb2.alloc hb2.size _).grown hg3' (by have := hb2.size; simp; omega) (fun k e => (hrow2.lt k e).1)
  have hb4 : Below w0.heap.size w0 w4 := hb3.grown hg4 hb3.size (fun k e => by cases e; exact h0B)
  have hk4 : KeepsWalks W1 w4 := ((hk2.trans (KeepsWalks.alloc _ _)).trans (KeepsWalks.of_grownBy hg3' (ownsRow_not_walk_a (hrow2.alloc _)))).trans (by rw [← hw4]; exact KeepsWalks.setCell _ _ _)
  clear hw4
  refine ⟨_, _, run_endRound none hL4, rfl, ⟨⟨_, (World.putObj_heap_other hBl).trans hv4, ?_⟩, World.putObj_heap_same hl4, (World.putObj_heap_other hDl).trans hK4, hb4.grown (grownBy_putObj_a _ _ _) hb4.size (fun k e => by cases e; exact h0l)⟩, hkw.trans (hk4.trans (KeepsWalks.putObj _ hL4 rfl))⟩
  have := hrow4.kept (grownBy_putObj_a w4 l (.loop { { apRec fn sv Bs D .ready none with state := .busy } with state := if (none : Option Code).isNone then .ready else .done, pending := none })) (ownsRow_ne_a hrow4 hL4 (fun cur e => by cases e))
  rw [flF_snoc, List.length_append]
  simpa using this
set_option maxRecDepth 1000000 in
set_option maxHeartbeats 8000000 in
/-- slices.AppendSeq(nil, seq), against whatever iterator value that gives cells with their texts. -/
theorem appendSeq_in (F : Fence) (n : Nat) (h11 : F.fn 69) (hro : F.round = none) (hn : 2 ≤ n) (g : Nat) (lb : Array Value) (hFg : F.fn g) (eg : ∀ args w, (callFunc g args).run Tryz.prog w = .ok (.enter g args) w)
    (S : List ps.Fl → Prop) (N : Nat) (hN : N ≤ 1000) (w : World) (hseq : SeqGives F (n - 1) Tryz.prog g lb FVv S N w) :
    CallsIn F n Tryz.prog 69 #[.slice none 0 0, .func (.func g) #[] lb] w fun e w' => ∃ (v : Value) (ss : List ps.Fl), e = .returned v ∧ S ss ∧ w'.ownsRow w.heap.size 25 3 v ss.length (ps.flF ss) ∧ Below w.heap.size w w' := by
  have h1 : 1 ≤ n := by omega
  refine callsIn_of_wp_marks Tryz.func69 rfl h11 ?_ hro
  simp only [Tryz.ntmps69, List.size_toArray, List.length_cons, List.length_nil, Nat.reduceAdd, Nat.reduceSub, Array.replicate_succ, Array.replicate_zero, List.push_toArray, List.append_toArray, List.nil_append, List.cons_append]
  gi_wp2
  refine wpIn_rangeFunc ?_
  intro fn hfn
  rw [hro]
  obtain ⟨W0, hW0⟩ : ∃ W0, w.alloc (.cells #[.slice none 0 0] 26) = W0 := ⟨_, rfl⟩
  have hs0 : W0.heap.size = w.heap.size + 1 := by rw [← hW0]; simp
  have hv0 : W0.heap[w.heap.size]? = some (.cells #[.slice none 0 0] 26 (0, 0)) := by rw [← hW0]; exact World.alloc_heap_new w _
  have hb0 : Below w.heap.size w W0 := by rw [← hW0]; exact (Below.refl _ w).alloc (Nat.le_refl _) _
  rw [hW0]
  obtain ⟨W1, hW1⟩ : ∃ W1, (W0.alloc (.deferred (some []))).alloc (.loop (apRec fn (.func (.func g) #[] lb) w.heap.size W0.heap.size .ready none)) = W1 := ⟨_, rfl⟩
  have hold : ∀ k, k < W0.heap.size → W1.heap[k]? = W0.heap[k]? := fun k hk => by
    rw [← hW1]; exact (Below.heap_alloc _ _ k (by simp; omega)).trans (Below.heap_alloc _ _ k hk)
  have hb1 : Below w.heap.size w W1 := by rw [← hW1]; exact (hb0.alloc hb0.size _).alloc (by have := hb0.size; simp; omega) _
  have hs1 : W1.heap.size = W0.heap.size + 2 := by rw [← hW1]; simp
  have hM : ApAt w fn (.func (.func g) #[] lb) w.heap.size (W0.heap.size + 1) W0.heap.size [] W1 :=
    ⟨⟨_, (hold w.heap.size (by omega)).trans hv0, ⟨rfl, .inl ⟨rfl, rfl⟩⟩⟩,
     by rw [← hW1]; have := World.alloc_heap_new (W0.alloc (.deferred (some []))) (.loop (apRec fn (.func (.func g) #[] lb) w.heap.size W0.heap.size .ready none)); rwa [World.size_alloc] at this,
     by rw [← hW1]; exact (Below.heap_alloc _ _ _ (by simp)).trans (World.alloc_heap_new W0 _), hb1⟩
  refine ⟨W0.heap.size + 1, [{ target := .collected W0.heap.size, args := #[] }], W1, { target := .fn (.func g) lb, args := #[.func (.yield (W0.heap.size + 1)) #[] #[]] }, W1, g,
    #[.func (.yield (W0.heap.size + 1)) #[] #[]] ++ lb, W1, ?_, ?_, ?_, ?_, fun _ => h1, ?_⟩
  · rw [← hW1]; exact run_enterLoop_outer _ _ _ _ _
  · simp [resolve, go_sem]
  · intro f' hf'; simp [Target.leads] at hf'; subst hf'; exact hFg
  · simp [invoke, go_sem, eg]
  · refine (hseq (W0.heap.size + 1) (ApAt w fn (.func (.func g) #[] lb) w.heap.size (W0.heap.size + 1) W0.heap.size) W1 hb1 (ap_abides _ _ _ _ _ _ _ hb1.size)
      (fun pre x W hJ hl => ap_yield F (n - 1 - 1) w fn hfn _ w.heap.size (W0.heap.size + 1) W0.heap.size (by omega) (by omega) (by omega) (Nat.le_refl _) (by omega) N hN pre x W hJ hl) hM).mono ?_
    rintro e W2 ⟨⟨v0, rfl⟩, ss, hS, h2⟩
    obtain ⟨v, hv, hrow⟩ := h2.box
    have hend := run_endLoop (P := Tryz.prog) h2.L (by simp [apRec])
    obtain ⟨W3, hW3⟩ : ∃ W3, W2.putObj (W0.heap.size + 1) (.loop { apRec fn (.func (.func g) #[] lb) w.heap.size W0.heap.size .ready none with state := .exhausted }) = W3 := ⟨_, rfl⟩
    rw [hW3] at hend
    have hg3 : W2.grownBy W3 (some (W0.heap.size + 1)) := by rw [← hW3]; exact grownBy_putObj_a _ _ _
    have hv3 : W3.heap[w.heap.size]? = some (.cells #[v] 26 (0, 0)) := by rw [← hW3]; exact (World.putObj_heap_other (by omega)).trans hv
    have hK3 : W3.heap[W0.heap.size]? = some (.deferred (some [])) := by rw [← hW3]; exact (World.putObj_heap_other (by omega)).trans h2.K
    have hrow3 := hrow.kept hg3 (ownsRow_ne_a hrow h2.L (fun cur e => by cases e))
    have hb3 : Below w.heap.size w W3 := h2.below.grown hg3 h2.below.size (fun k e => by cases e; omega)
    obtain ⟨hc3, hf3⟩ := cell_of_box_a hv3
    clear hW3
    refine ⟨none, W3, hend, ?_⟩
    gi_wp2
    rw [← hs0]
    refine ⟨by simp, .inl ⟨_, _, rfl, run_takeDeferred hK3, ?_⟩⟩
    exact ⟨_, results_tmp rfl _ _ _, v, ss, rfl, hS, hrow3.kept (grownBy_putObj_a _ _ _) (ownsRow_ne_a hrow3 hK3 (fun cur e => by cases e)), hb3.grown (grownBy_putObj_a _ _ _) hb3.size (fun k e => by cases e; omega)⟩
set_option maxHeartbeats 2000000 in
theorem collect_in (F : Fence) (n : Nat) (h8 : F.fn 52) (h11 : F.fn 69) (hro : F.round = none) (hn : 3 ≤ n) (g : Nat) (lb : Array Value) (hFg : F.fn g) (eg : ∀ args w, (callFunc g args).run Tryz.prog w = .ok (.enter g args) w)
    (S : List ps.Fl → Prop) (N : Nat) (hN : N ≤ 1000) (w : World) (hseq : SeqGives F (n - 1 - 1) Tryz.prog g lb FVv S N w) :
    CallsIn F n Tryz.prog 52 #[.func (.func g) #[] lb] w fun e w' => ∃ (v : Value) (ss : List ps.Fl), e = .returned v ∧ S ss ∧ w'.ownsRow w.heap.size 25 3 v ss.length (ps.flF ss) ∧ Below w.heap.size w w' := by
  have h1 : 1 ≤ n := by omega
  refine callsIn_of_wp Tryz.func52 rfl h8 ?_ hro
  simp only [Tryz.ntmps52, List.size_toArray, List.length_cons, List.length_nil, Nat.reduceAdd, Nat.reduceSub, Array.replicate_succ, Array.replicate_zero, List.push_toArray, List.append_toArray, List.nil_append, List.cons_append]
  gi_wp2_with (gi_at_call 69; refine (appendSeq_in F (n - 1) h11 hro (by omega) g lb hFg eg S N hN _ hseq).mono ?_; rintro e w' ⟨v, ss, rfl, hS, hrow, hb⟩)
  go_ret
  exact ⟨v, ss, rfl, hS, hrow, hb⟩
/-- The values of a map, collected. -/
theorem collect_any (b : Nat) (xs : List ps.Fl) (hl : xs.length ≤ 1000) (Bm : Nat) (w : World) (hBm : Bm < w.heap.size) (hm : w.cell? ⟨Bm, 0, none⟩ = some (.map (some b))) (hM : MP w b xs) :
    Calls Tryz.prog 52 #[.func (.func 54) #[] #[.pointer (some ⟨Bm, 0, none⟩)]] w fun e w' => ∃ (v : Value) (ss : List ps.Fl), e = .returned v ∧ ss.Perm xs ∧ w'.ownsRow w.heap.size 25 3 v ss.length (ps.flF ss) ∧ Below w.heap.size w w' :=
  (callsIn_wide (n := 6)).1 (collect_in Fence.wide 6 trivial trivial rfl (by decide) _ _ trivial (enters_of Tryz.func54 (by kernel_rfl) rfl) (fun ys => ys.Perm xs) xs.length hl w (values_gives Fence.wide _ trivial rfl (by decide) Bm b xs w hBm hm hM))
end Go.Proofs.YtokfijkhflfioaaGreatDoor.fw

/- slices.SortFunc at a list of cells with their texts; slices.SortedFunc; package book: page.list. Conditions: as each theorem says. -/
namespace Go.Proofs.YtokfijkhflfioaaGreatDoor.ps
open Go.RowKit Go.Sort
open adr (C)
/-- Draws and new blocks, nothing else. -/
def Gr (w w' : World) : Prop := ∃ (q : Nat) (os : Array Obj), w' = grow (w.drewN q) os
theorem Gr.refl (w : World) : Gr w w := ⟨0, #[], by rw [grow_empty]; rfl⟩
theorem Gr.trans {a b c : World} (h : Gr a b) (h2 : Gr b c) : Gr a c := by
  obtain ⟨q, os, rfl⟩ := h
  obtain ⟨q', os', rfl⟩ := h2
  refine ⟨q + q', os ++ os', ?_⟩
  unfold grow World.drewN
  simp [Array.append_assoc, Nat.add_assoc]
theorem Gr.alloc {a b : World} (h : Gr a b) (o : Obj) : Gr a (b.alloc o) := h.trans ⟨0, #[o], by rw [alloc_eq_grow]; rfl⟩
theorem Gr.drew {a b : World} (h : Gr a b) : Gr a b.drew := h.trans ⟨1, #[], by rw [grow_empty]; rfl⟩
theorem Gr.below {a b : World} (h : Gr a b) : Below a.heap.size a b := by
  obtain ⟨q, os, rfl⟩ := h
  refine ⟨rfl, rfl, rfl, by simp [grow, World.drewN], fun k hk => ?_⟩
  simp only [grow, World.drewN]
  rw [Array.getElem?_append_left hk]
structure PG (w : World) (a b c d : Int) (wx : World) : Prop where
  x : wx.heap[w.heap.size]? = some (.cells #[.int .i64 a, .int .i64 b] 23 (0, 0))
  y : wx.heap[w.heap.size + 1]? = some (.cells #[.int .i64 c, .int .i64 d] 23 (0, 0))
  gr : Gr w wx
theorem PG.start (w : World) (a b c d : Int) : PG w a b c d ((w.alloc (.cells #[.int .i64 a, .int .i64 b] 23)).alloc (.cells #[.int .i64 c, .int .i64 d] 23)) :=
  ⟨(PC.start w a b c d).x, (PC.start w a b c d).y, ((Gr.refl _).alloc _).alloc _⟩
theorem PG.next {w : World} {a b c d : Int} {wx wy : World} (h : PG w a b c d wx) (hb : Gr wx wy) : PG w a b c d wy := ⟨(hb.below.block _ (fm.lt_blk h.x)).trans h.x, (hb.below.block _ (fm.lt_blk h.y)).trans h.y, h.gr.trans hb⟩
abbrev PQ (w : World) (a b c d : Int) (wx : World) : Prop := wx.cell? ⟨w.heap.size, 0, none⟩ = some (.int .i64 a) ∧ wx.cell? ⟨w.heap.size, 1, none⟩ = some (.int .i64 b) ∧ wx.cell? ⟨w.heap.size + 1, 0, none⟩ = some (.int .i64 c) ∧ wx.cell? ⟨w.heap.size + 1, 1, none⟩ = some (.int .i64 d) ∧ PG w a b c d wx
theorem PG.opened {w : World} {a b c d : Int} {wx : World} (h : PG w a b c d wx) : PQ w a b c d wx :=
  ⟨by simp [World.cell?, h.x], by simp [World.cell?, h.x], by simp [World.cell?, h.y], by simp [World.cell?, h.y], h⟩
theorem pq {w : World} {a b c d : Int} {wx : World} (h : PQ w a b c d wx) : PG w a b c d wx := h.2.2.2.2
set_option maxRecDepth 100000 in
set_option maxHeartbeats 4000000 in
theorem compare_gr (a b c d : Int) (w : World) :
    Calls Tryz.prog 39 #[C a b, C c d] w fun e w' => e = .returned (.int .i64 (cmpC a b c d)) ∧ Gr w w' := by
  have hS := PG.start w a b c d
  rw [← cmpC_or]
  have HP : Hid (∀ x y wx, Calls Tryz.prog 56 #[.int .i64 x, .int .i64 y] wx fun e w' => e = .returned (.int .i64 (cmpI x y)) ∧ Gr wx w') := fun x y wx => (cmpInt_any x y wx).mono (fun e w' h => by obtain ⟨rfl, rfl⟩ := h; exact ⟨rfl, Gr.refl _⟩)
  have HO : Hid (∀ (p q : Int) (wx : World), Calls Tryz.prog 55 #[.slice (some ⟨wx.heap.size, 0, none⟩) 2 2] (wx.alloc (.cells #[.int .i64 p, .int .i64 q] 3)) fun e w' => e = .returned (.int .i64 (orI p q)) ∧ Gr (wx.alloc (.cells #[.int .i64 p, .int .i64 q] 3)) w') := fun p q wx => (or_any p q wx.heap.size _ (heap_alloc_new _ _)).mono (fun e w' h => by obtain ⟨rfl, rfl⟩ := h; exact ⟨rfl, Gr.refl _⟩)
  go_enter Tryz.func39, Tryz.ntmps39
  go_wp2_with fail
  generalize (w.alloc (.cells #[.int .i64 a, .int .i64 b] 23)).alloc (.cells #[.int .i64 c, .int .i64 d] 23) = W at *
  have h0d := (hS.next (Gr.refl _).drew).opened
  obtain ⟨y0, y1, y2, y3, -⟩ := hS.opened
  go_region_held3 (fun wx => PQ w a b c d wx) (first | exact h0d | exact ((pq (by assumption)).next (by assumption)).opened | exact ((pq (by assumption)).next ((Gr.refl _).alloc _)).opened) (first | (go_at_call 56; refine (HP.out _ _ _).mono ?_; rintro e w1 ⟨rfl, hb1⟩) | (go_at_call 55; refine (HO.out _ _ _).mono ?_; rintro e w3 ⟨rfl, hb3⟩; have hk3 := (pq (by assumption)).next hb3))
  all_goals
    go_wp2_with fail
    go_ret
    exact ⟨rfl, hk3.gr⟩
set_option maxRecDepth 100000 in
set_option maxHeartbeats 1600000 in
theorem cmp39_any (x y : Fl) (w : World) : Calls Tryz.prog 38 #[FV x, FV y] w fun e w' => e = .returned (.int .i64 (cmpC x.c x.r y.c y.r)) ∧ Gr w w' := by
  obtain ⟨xc, xr, xs⟩ := x
  obtain ⟨c, r, ys⟩ := y
  dsimp only [FV]
  have HC : Hid (∀ wx, Calls Tryz.prog 39 #[C xc xr, C c r] wx fun e w' => e = .returned (.int .i64 (cmpC xc xr c r)) ∧ Gr wx w') := compare_gr xc xr c r
  obtain ⟨h1, h2⟩ := two_new' w (.cells #[.int .i64 xc, .int .i64 xr, .string xs] 25) (.cells #[.int .i64 c, .int .i64 r, .string ys] 25)
  obtain ⟨y0, y1, y4⟩ := cells3 h1
  obtain ⟨y2, y3, y5⟩ := cells3 h2
  have HB : Hid (Gr w ((w.alloc (.cells #[.int .i64 xc, .int .i64 xr, .string xs] 25)).alloc (.cells #[.int .i64 c, .int .i64 r, .string ys] 25))) := ((Gr.refl _).alloc _).alloc _
  generalize cmpC xc xr c r = q at *
  clear h1 h2
  go_enter Tryz.func38, Tryz.ntmps38
  go_wp2_with fail
  refine (HC.out _).mono ?_
  rintro e w1 ⟨rfl, hb1⟩
  have HK : Hid (Gr w w1) := HB.out.trans hb1
  clear y0 y1 y2 y3 y4 y5 hb1
  go_wp2_with fail
  go_ret
  exact ⟨rfl, HK.out⟩
def cf39 (x y : Fl) : Int := cmpC x.c x.r y.c y.r
theorem lt39 (x y : Fl) : ltOf cf39 x y = lt x y.c y.r := rfl
theorem swo39 : SWO (ltOf cf39) where
  irrefl x := by rw [lt39, lt_no]; omega
  trans x y z h1 h2 := by rw [lt39, lt_iff] at *; omega
  ntrans x y z h1 h2 := by rw [lt39, lt_no] at *; omega
theorem lays39 [Inhabited Fl] (blk off size : Nat) (w : World) : CmpLays Tryz.prog 38 #[] fl3 3 cf39 blk off size w :=
  fun _ _ _ _ x y => cmp39_any x y _
theorem below_sorted {α : Type} [Inhabited α] (enc : α → List Value) (k : Nat) (w : World) (blk off m : Nat) (d : Array α) (os : Array Obj) {base : Nat} (h : base ≤ blk) (hw : base ≤ w.heap.size) : Below base w (sortWorldK enc k w blk off m d os) := by
  refine ⟨rfl, rfl, rfl, size_sortWorldK_c enc k w blk off m d os, fun i hi => ?_⟩
  unfold sortWorldK putRowK putRow mapBlock Go.Sort.ahead grow
  have hs : i < w.heap.size := Nat.lt_of_lt_of_le hi hw
  simp only
  rw [Array.getElem?_append_left (by simpa using hs), Array.getElem?_modify, if_neg (by omega)]
theorem PermIn_list {α : Type} [Inhabited α] {d d' : Array α} (h : PermIn 0 d.size d d') : d.toList.Perm d'.toList := by
  have h2 := h.2.2
  rw [Array.extract_size, show d.size = d'.size from h.1.symm, Array.extract_size] at h2
  exact h2.symm
theorem get_bang {α : Type} [Inhabited α] {l : List α} {i : Nat} (h : i < l.length) : l[i]? = some l[i]! := by
  rw [List.getElem?_eq_getElem h, getElem!_pos l i h]
def Dst (l : List Fl) : Prop := l.Pairwise fun x y => ¬ (x.c = y.c ∧ x.r = y.r)
theorem Srt.dst {l : List Fl} (h : Srt l) : Dst l := h.imp (fun {x y} h => by rw [lt_iff] at h; omega)
theorem Dst.perm {l l' : List Fl} (h : Dst l) (hp : l.Perm l') : Dst l' := (hp.pairwise_iff (R := fun x y : Fl => ¬ (x.c = y.c ∧ x.r = y.r)) (fun {_ _} h e => h ⟨e.1.symm, e.2.symm⟩)).1 h
/-- Whoever sorted them so, it is the same list. -/
theorem sorted_perm_is {l l' : List Fl} (hs0 : Srt l) (hp : l.Perm l') (hs : ∀ (i j : Nat) (x y : Fl), i < j → l'[i]? = some x → l'[j]? = some y → lt y x.c x.r = false) : l' = l := by
  have hd' := hs0.dst.perm hp
  refine List.Perm.eq_of_pairwise (le := fun x y => lt x y.c y.r = true) (fun x y _ _ h1 h2 => ?_) ?_ hs0 hp.symm
  · rw [lt_iff] at h1 h2
    omega
  · refine List.pairwise_iff_getElem.2 (fun i j hi hj hij => ?_)
    have h1 := hs i j l'[i] l'[j] hij (List.getElem?_eq_getElem hi) (List.getElem?_eq_getElem hj)
    have h2 := List.pairwise_iff_getElem.1 hd' i j hi hj hij
    rw [lt_no] at h1
    rw [lt_iff]
    omega
set_option maxHeartbeats 1000000 in
theorem sortF_any (v : Value) (l : List Fl) (base : Nat) (w : World) (hown : w.ownsRow base 25 3 v l.length (flF l)) (hbase : base ≤ w.heap.size) {xs : List Fl} (hd : Srt xs) (hpx : l.Perm xs) (hl : l.length ≤ 1000) :
    Calls Tryz.prog 53 #[v, .func (.func 38) #[] #[]] w fun e w' => e = .returned (.tuple #[]) ∧ (∃ p c, v = .slice p l.length c ∧ FM w' p xs) ∧ Below base w w' := by
  haveI : Inhabited Fl := ⟨⟨0, 0, nul⟩⟩
  have hsh := FB.shape (own_base hown (Nat.zero_le _))
  rcases hown.2 with ⟨rfl, h0⟩ | ⟨g, cap, cur, rfl, hbg, hg, hcap, hm, hz, ht⟩
  · have hcon := AnyF.slices_SortFunc_none Tryz.sortV none 0 (.func (.func 38) #[] #[]) w
    change Calls Tryz.prog 53 _ _ _ at hcon
    refine hcon.mono ?_
    rintro e w' ⟨rfl, rfl⟩
    have e0 : l = [] := List.length_eq_zero_iff.1 h0
    subst e0
    have e1 : xs = [] := List.length_eq_zero_iff.1 (by rw [← hpx.length_eq]; rfl)
    exact ⟨rfl, ⟨none, 0, rfl, .inl e1⟩, Below.refl _ _⟩
  · obtain ⟨p, c, e, hM⟩ := hsh
    injection e with e1 _ e3
    subst e1 e3
    have hlt := fm.lt_blk hg
    have hcell : ∀ (t : Nat) u, (flF l)[t]? = some u → w.cell? ⟨g, t, none⟩ = some u := by
      rcases hM with hM | ⟨g', o', e, -, h3⟩
      · intro t u hu; rw [hM] at hu; simp [flF] at hu
      · injection e with e; injection e with e1 e2; subst e1 e2
        intro t u hu
        have := h3 t u hu
        rwa [Nat.zero_add] at this
    have hH : HoldsK fl3 3 w g 0 l.toArray := by
      intro j hj
      rw [size_flatK] at hj
      have hj' : j < l.length * 3 := by simpa using hj
      have hi : j / 3 < l.length := by omega
      refine ⟨?_, froz hg _⟩
      rw [get_flatK fl3 3 l.toArray j hj, Nat.zero_add]
      refine hcell j _ ?_
      have hx : l[j / 3]? = some l[j / 3] := List.getElem?_eq_getElem hi
      have hj3 : j % 3 < 3 := Nat.mod_lt _ (by decide)
      have hv : (fl3 l[j / 3])[j % 3]? = some (fl3 l[j / 3])[j % 3]! := get_bang (show j % 3 < (fl3 l[j / 3]).length from hj3)
      have := flF_at hx hv
      rw [show j / 3 * 3 + j % 3 = j by omega] at this
      rw [this]
      have e5 : l.toArray[j / 3]! = l[j / 3] := by rw [getElem!_pos _ _ (by simpa using hi)]; simp
      rw [e5]
      rfl
    have hcon := AnyQ.slices_SortFunc Tryz.sortV 3 Tryz.isAgg25 Tryz.sizeOf25 fl3 (fun _ => rfl) (fun x v hv => flF_one [x] v (by simpa [flF] using hv)) cf39 swo39 38 #[] g 0 cap l.toArray w (enters_of Tryz.func38 (by kernel_rfl) rfl) (lays39 g 0 _ w) hH hlt (by simp; omega)
    change Calls Tryz.prog 53 _ _ _ at hcon
    have e6 : l.toArray.size = l.length := by simp
    rw [e6] at hcon
    refine hcon.mono ?_
    rintro e w' ⟨rfl, d', n, os, hp, hs, rfl⟩
    rw [← e6] at hp hs
    have hsz : d'.size = l.length := by have := hp.1; simpa using this
    have hperm : l.Perm d'.toList := by have := PermIn_list hp; simpa using this
    have hL : d'.toList = xs := by
      refine sorted_perm_is hd (hpx.symm.trans hperm) (fun i j x y hij hx hy => ?_)
      have hj := (List.getElem?_eq_some_iff.1 hy).1
      have hj' : j < d'.size := by simpa using hj
      have h1 := hs i j (Nat.zero_le _) hij (by rw [hsz] at hj'; simpa using hj')
      have ex : d'[i]! = x := by
        rw [getElem!_pos _ i (by omega)]
        have := (List.getElem?_eq_some_iff.1 hx).2
        simpa using this
      have ey : d'[j]! = y := by
        rw [getElem!_pos _ j hj']
        have := (List.getElem?_eq_some_iff.1 hy).2
        simpa using this
      rw [ex, ey, lt39] at h1
      exact h1
    refine ⟨rfl, ⟨_, _, rfl, ?_⟩, below_sorted fl3 3 w g 0 n d' os hbg hbase⟩
    have hH' : HoldsK fl3 3 (sortWorldK fl3 3 w g 0 n d' os) g 0 d' := holdsK_sortWorldK fl3 3 w g 0 n l.toArray d' os hlt hH (by simpa using hsz)
    refine .inr ⟨g, 0, rfl, lt_sortWorldK fl3 3 w g 0 n d' os hlt, fun t u hu => ?_⟩
    rw [← hL] at hu
    have htl := (List.getElem?_eq_some_iff.1 hu).1
    rw [flF_len] at htl
    have hi : t / 3 < d'.size := by simp at htl; omega
    have hc := (HoldsK.cell hH' hi (c := t % 3) (Nat.mod_lt _ (by decide))).1
    rw [show 0 + t / 3 * 3 + t % 3 = 0 + t by omega] at hc
    rw [hc]
    have hx : d'.toList[t / 3]? = some d'[t / 3]! := by rw [getElem!_pos d' (t / 3) hi]; simp
    have hj3 : t % 3 < 3 := Nat.mod_lt _ (by decide)
    have hv : (fl3 d'[t / 3]!)[t % 3]? = some (fl3 d'[t / 3]!)[t % 3]! := get_bang (show t % 3 < (fl3 d'[t / 3]!).length from hj3)
    have := flF_at hx hv
    rw [show t / 3 * 3 + t % 3 = t by omega, hu] at this
    exact this.symm
end Go.Proofs.YtokfijkhflfioaaGreatDoor.ps
namespace Go.Proofs.YtokfijkhflfioaaGreatDoor.fw
open Go Go.RowKit Go.Sort Go.Maps Go.Shelf
set_option maxHeartbeats 2000000 in
/-- slices.SortedFunc(maps.Values(m), ..): the map's cells with their texts, as they stand. -/
theorem sortedFunc_any (b : Nat) (xs : List ps.Fl) (hl : xs.length ≤ 1000) (hs : ps.Srt xs) (Bm : Nat) (w : World) (hBm : Bm < w.heap.size) (hm : w.cell? ⟨Bm, 0, none⟩ = some (.map (some b))) (hM : MP w b xs) :
    Calls Tryz.prog 36 #[.func (.func 54) #[] #[.pointer (some ⟨Bm, 0, none⟩)], .func (.func 38) #[] #[]] w fun e w' => (∃ p c, e = .returned (.slice p xs.length c) ∧ ps.FM w' p xs) ∧ Bw w w' := by
  have HC : Hid (Calls Tryz.prog 52 #[.func (.func 54) #[] #[.pointer (some ⟨Bm, 0, none⟩)]] w fun e w' => ∃ (v : Value) (ss : List ps.Fl), e = .returned v ∧ ss.Perm xs ∧ w'.ownsRow w.heap.size 25 3 v ss.length (ps.flF ss) ∧ Below w.heap.size w w') := collect_any b xs hl Bm w hBm hm hM
  have HS : Hid (ps.Srt xs) := hs
  clear hm hM hs
  go_enter Tryz.func36, Tryz.ntmps36
  go_upto_region 2 with (first | (go_at_call 52; refine HC.out.mono ?_; rintro e w1 ⟨v, ss, rfl, hp, ho, hb⟩))
  have HSo : Hid (Calls Tryz.prog 53 #[v, .func (.func 38) #[] #[]] w1 fun e w' => e = .returned (.tuple #[]) ∧ (∃ p c, v = .slice p ss.length c ∧ ps.FM w' p xs) ∧ Below w.heap.size w1 w') := ps.sortF_any v ss w.heap.size w1 ho hb.size HS.out hp (by rw [hp.length_eq]; exact hl)
  have HB1 : Hid (Bw w w1) := hb
  have HLn : Hid (ss.length = xs.length) := hp.length_eq
  clear hp ho hb HC
  go_wp2_with (first | (go_at_call 53; refine HSo.out.mono ?_; rintro e w2 ⟨rfl, ⟨p, c, rfl, hfm⟩, hb2⟩))
  go_ret
  exact ⟨⟨p, c, by rw [← HLn.out]; rfl, hfm⟩, HB1.out.trans hb2⟩
set_option maxHeartbeats 2000000 in
theorem list_any (b : Nat) (xs : List ps.Fl) (hl : xs.length ≤ 1000) (hs : ps.Srt xs) (w : World) (hM : MP w b xs) :
    Calls Tryz.prog 28 #[.map (some b)] w fun e w' => (∃ p c, e = .returned (.slice p xs.length c) ∧ ps.FM w' p xs) ∧ Bw w w' := by
  have HV : Hid (Calls Tryz.prog 37 #[.map (some b)] w fun e w' => e = .returned (.func (.func 54) #[] #[.pointer (some ⟨w.heap.size, 0, none⟩)]) ∧ w' = w.alloc (.cells #[.map (some b)] 62)) := (callsIn_wide (n := 3)).1 (values_in Fence.wide 3 trivial rfl (some b) w)
  have HSo := sortedFunc_any b xs hl hs w.heap.size (w.alloc (.cells #[.map (some b)] 62)) (by simp) (cell_of_box_a (heap_alloc_new w _)).1 (hM.kept (World.grownBy_alloc _ _ none) (by simp))
  have HS2 : Hid (Calls Tryz.prog 36 #[.func (.func 54) #[] #[.pointer (some ⟨w.heap.size, 0, none⟩)], .func (.func 38) #[] #[]] (w.alloc (.cells #[.map (some b)] 62)) fun e w' => (∃ p c, e = .returned (.slice p xs.length c) ∧ ps.FM w' p xs) ∧ Bw (w.alloc (.cells #[.map (some b)] 62)) w') := HSo
  clear HSo hM hs
  go_enter Tryz.func28, Tryz.ntmps28
  go_wp2_with (first | (go_at_call 37; refine HV.out.mono ?_; rintro e w1 ⟨rfl, rfl⟩) | (go_at_call 36; refine HS2.out.mono ?_; rintro e w2 ⟨⟨p, c, rfl, hfm⟩, hb2⟩))
  go_ret
  exact ⟨⟨p, c, rfl, hfm⟩, (Bw.al w _).tr hb2⟩
end Go.Proofs.YtokfijkhflfioaaGreatDoor.fw

/- Package book: page.takes. Conditions: as each theorem says. -/
namespace Go.Proofs.YtokfijkhflfioaaGreatDoor.fw
open Go Go.RowKit Go.Sort Go.Maps
/-- A cell gets a text, or may not have it. -/
def tkF (xs : List ps.Fl) (f : ps.Fl) : Option (List ps.Fl) := if adr.isC f.c f.r = true ∧ ftx f.s = 0 ∧ (ps.wt xs f).length ≤ 200 then some (ps.wt xs f) else none
theorem lk_look {es : List (Lit × DataW Value)} {xs : List ps.Fl} (h : mpg.Lk Tryz.prog 23 kvF FVv klF es xs) {l : Lit} {v : Value} {pp : List MemPlace} (hv : mpg.anyR v = some ((DataW.map es).atKey l (.held (.agg #[.int .i64 0, .int .i64 0, .string nul])), pp)) : ∃ g : ps.Fl, v = FVv g := by
  unfold mpg.anyR DataW.atKey at hv
  dsimp only at hv
  cases hf : es.find? (fun p => p.1.sameKey l) with
  | none => rw [hf] at hv; cases hv; exact ⟨⟨0, 0, nul⟩, rfl⟩
  | some p =>
    rw [hf] at hv
    obtain ⟨x, hx, rfl⟩ := h.mem.1 (List.mem_of_find?_eq_some hf)
    cases hv
    exact ⟨x, rfl⟩
theorem lk_has {es : List (Lit × DataW Value)} {xs : List ps.Fl} (h : mpg.Lk Tryz.prog 23 kvF FVv klF es xs) {f : ps.Fl} (hf : keyOf Tryz.prog 23 (kvF f) = some (klF f)) : Maps.has (.map es) (klF f) = hasC xs f.c f.r := by
  rw [Bool.eq_iff_iff, h.has key23 hf, hasC_iff]
  constructor
  · rintro ⟨x, hx, e⟩; exact ⟨x, hx, kv_iff.1 e⟩
  · rintro ⟨x, hx, e⟩; exact ⟨x, hx, kv_iff.2 e⟩
theorem bw_map {w wx wy : World} {b : Nat} (h : Bw w wx) (hb : w.heap.size ≤ b) (hg : wx.grownBy wy (some b)) : Bw w wy := h.grown hg h.size (fun k e => by cases e; exact hb)
theorem wf_small {n : Int} (h : 0 ≤ n ∧ n < 256) : (Lit.int .i64 n).wf = true := by
  have h1 : IntKind.i64.min = -9223372036854775808 := rfl
  have h2 : IntKind.i64.max = 9223372036854775807 := rfl
  simp [Lit.wf, h1, h2]
  omega
/-- What takes answers. -/
def TkO (w : World) (b : Nat) (xs : List ps.Fl) (f : ps.Fl) (e : Ending) (w' : World) : Prop := (∃ ys, tkF xs f = some ys ∧ e = .returned (.bool true) ∧ MP w' b ys ∧ Bw w w') ∨ (tkF xs f = none ∧ e = .returned (.bool false) ∧ MP w' b xs ∧ Bw w w')
set_option maxRecDepth 1000000 in
set_option maxHeartbeats 8000000 in
theorem takes_any (w : World) (b : Nat) (hb : w.heap.size ≤ b) (xs : List ps.Fl) (f : ps.Fl) (wx : World) (hB : Bw w wx) (hM : MP wx b xs) (hs : ps.Srt xs) (hl : xs.length ≤ 200) (hE : ps.EnvP w) (hfc : 0 ≤ f.c ∧ f.c < 256) (hfr : 0 ≤ f.r ∧ f.r < 256) :
    Calls Tryz.prog 27 #[.map (some b), FVv f] wx fun e w' => TkO w b xs f e w' := by
  have hkl : keyOf Tryz.prog 23 (kvF f) = some (klF f) := kl_of (wf_small hfc) (wf_small hfr)
  have HKL : Hid (keyOf Tryz.prog 23 (kvF f) = some (klF f)) := hkl
  have HS : Hid (ps.Srt xs) := hs
  have HLx : Hid (xs.length ≤ 200) := hl
  have hbl : b < wx.heap.size := hM.lt
  obtain ⟨c, r, s⟩ := f
  have hb0 : Bw wx (wx.alloc (.cells #[.int .i64 c, .int .i64 r, .string s] 25)) := Bw.al wx _
  obtain ⟨y0, y1, y2⟩ := cells3q (heap_alloc_new wx (.cells #[.int .i64 c, .int .i64 r, .string s] 25))
  obtain ⟨E, hE0⟩ : ∃ E, E = if adr.isC c r = true then ftx s else 1 := ⟨_, rfl⟩
  have HCE : Hid (Calls Tryz.prog 20 #[adr.C c r, .string s] (wx.alloc (.cells #[.int .i64 c, .int .i64 r, .string s] 25)) fun e w' => e = .returned (ps.errV E) ∧ Bw (wx.alloc (.cells #[.int .i64 c, .int .i64 r, .string s] 25)) w') := (ps.scheck_any ⟨c, r, s⟩ _ (hE.below (hB.tr hb0) hE.size)).mono fun e w' ⟨⟨t, h1, h2⟩, h3⟩ => ⟨by rw [h1, sck_is h2, hE0], h3⟩
  have HB0 : Hid (Bw w wx ∧ Bw wx (wx.alloc (.cells #[.int .i64 c, .int .i64 r, .string s] 25)) ∧ w.heap.size ≤ b ∧ MP wx b xs) := ⟨hB, hb0, hb, hM⟩
  have hl0 : wx.heap.size < (wx.alloc (.cells #[.int .i64 c, .int .i64 r, .string s] 25)).heap.size := by simp
  clear hB hb0 hE hM hs hl hkl
  dsimp only [FVv]
  by_cases h0 : E = 0
  · have HZ : Hid (adr.isC c r = true ∧ ftx s = 0) := by
      rw [h0] at hE0
      split at hE0
      · exact ⟨by assumption, hE0.symm⟩
      · cases hE0
    subst h0
    have HC : Hid (Calls Tryz.prog 20 #[adr.C c r, .string s] (wx.alloc (.cells #[.int .i64 c, .int .i64 r, .string s] 25)) fun e w' => e = .returned .nilIface ∧ Bw (wx.alloc (.cells #[.int .i64 c, .int .i64 r, .string s] 25)) w') := HCE
    clear HCE hE0
    go_enter Tryz.func27, Tryz.ntmps27
    go_upto_if 15 with (first | (go_at_call 20; refine HC.out.mono ?_; rintro e w1 ⟨rfl, hb1⟩; have HBX : Hid (Bw (wx.alloc (.cells #[.int .i64 c, .int .i64 r, .string s] 25)) w1) := hb1; have hy := box3_at hb1; obtain ⟨z0, z1, z2⟩ := hy))
    have HB1 : Hid (Bw wx w1) := HB0.out.2.1.tr hb1
    have HM1 : Hid (MP w1 b xs) := HB0.out.2.2.2.at (HB1.out.block b hbl)
    have HBw : Hid (Bw w w1 ∧ w.heap.size ≤ b) := ⟨HB0.out.1.tr HB1.out, HB0.out.2.2.1⟩
    obtain ⟨es, hown, hlk⟩ := HM1.out
    have HOwn : Hid (w1.ownsMap Tryz.prog 23 mpg.anyR b xs.length (.map es)) := hown
    have HLk : Hid (mpg.Lk Tryz.prog 23 kvF FVv klF es xs) := hlk
    have hbl1 : b < w1.heap.size := HM1.out.lt
    have hne : b ≠ wx.heap.size := by omega
    clear hown hlk HC y0 y1 y2 HB0 hb1 HB1
    cases hem : s.toList.isEmpty with
    | true =>
      have HE0 : Hid (s.size = 0) := ps.emp_yes hem
      have HTk : Hid (tkF xs ⟨c, r, s⟩ = some (ps.wt xs ⟨c, r, s⟩)) := by
        show _ = _
        unfold tkF
        rw [if_pos ⟨HZ.out.1, HZ.out.2, Nat.le_trans (wt_nul_len ⟨c, r, s⟩ HE0.out) HLx.out⟩]
      go_wp2_with (first | (at_delete; refine wpList_delete_own _ rfl _ _ 62 23 rfl 25 key23 under_page mpg.anyR b xs.length (.map es) rfl HOwn.out _ (klF ⟨c, r, s⟩) rfl HKL.out ?_; intro w2 hown2 hturn2))
      go_ret
      refine .inl ⟨_, HTk.out, rfl, mpg.MG.del HLk.out key23 HKL.out hown2 ?_, bw_map HBw.out.1 HBw.out.2 hturn2.grown⟩
      have := wt_filt HS.out ⟨c, r, s⟩
      rw [ps.put_nul HE0.out] at this
      exact this
    | false =>
      have HE0 : Hid (s.size ≠ 0) := ps.emp_no hem
      have HTk : Hid (tkF xs ⟨c, r, s⟩ = if (ps.wt xs ⟨c, r, s⟩).length ≤ 200 then some (ps.wt xs ⟨c, r, s⟩) else none) := by
        show _ = _
        unfold tkF
        by_cases h : (ps.wt xs ⟨c, r, s⟩).length ≤ 200
        · rw [if_pos ⟨HZ.out.1, HZ.out.2, h⟩, if_pos h]
        · rw [if_neg (fun h2 => h h2.2.2), if_neg h]
      have HWl : Hid ((ps.wt xs ⟨c, r, s⟩).length = if hasC xs c r = true then xs.length else xs.length + 1) := wt_len HS.out ⟨c, r, s⟩ HE0.out
      go_upto_region 7 with (first | (at_lookup; refine wpList_lookup_own_ok _ rfl _ _ 62 rfl 23 25 key23 under_page mpg.anyR (zeroF _) (.held (.agg #[.int .i64 0, .int .i64 0, .string nul])) [] rfl b xs.length (.map es) rfl HOwn.out _ (klF ⟨c, r, s⟩) rfl HKL.out ?_; intro v pp hv; obtain ⟨fg, rfl⟩ := lk_look HLk.out hv; clear hv; rw [lk_has HLk.out HKL.out]; dsimp only [FVv]))
      have HOwn2 : Hid ((w1.alloc (.cells #[.int .i64 fg.c, .int .i64 fg.r, .string fg.s] 25)).ownsMap Tryz.prog 23 mpg.anyR b xs.length (.map es)) := HOwn.out.alloc _
      have HBw2 : Hid (Bw w (w1.alloc (.cells #[.int .i64 fg.c, .int .i64 fg.r, .string fg.s] 25)) ∧ w.heap.size ≤ b) := ⟨HBw.out.1.tr (Bw.al w1 _), HBw.out.2⟩
      have HAt : Hid ((w1.alloc (.cells #[.int .i64 fg.c, .int .i64 fg.r, .string fg.s] 25)).cell? ⟨wx.heap.size, 0, none⟩ = some (.int .i64 c) ∧ (w1.alloc (.cells #[.int .i64 fg.c, .int .i64 fg.r, .string fg.s] 25)).cell? ⟨wx.heap.size, 1, none⟩ = some (.int .i64 r) ∧ (w1.alloc (.cells #[.int .i64 fg.c, .int .i64 fg.r, .string fg.s] 25)).cell? ⟨wx.heap.size, 2, none⟩ = some (.string s)) := box3_at (HBX.out.tr (Bw.al w1 _))
      generalize w1.alloc (.cells #[.int .i64 fg.c, .int .i64 fg.r, .string fg.s] 25) = w2 at *
      obtain ⟨x0, x1, x2⟩ := HAt.out
      have HPut : Hid (∀ w', w'.ownsMap Tryz.prog 23 mpg.anyR b (xs.length + 1) ((DataW.map es).put (klF ⟨c, r, s⟩) (.held (FVv ⟨c, r, s⟩))) → w2.mapTurned w' b → MP w' b (ps.wt xs ⟨c, r, s⟩) ∧ Bw w w') := fun w' h1 h2 => by
        refine ⟨mpg.MG.put HLk.out key23 HKL.out h1 ?_, bw_map HBw2.out.1 HBw2.out.2 h2.grown⟩
        have := wt_filt HS.out ⟨c, r, s⟩
        rw [ps.put_one HE0.out] at this
        exact this
      have hmx : xs.length < maxLen := by have := HLx.out; have e : maxLen = 9223372036854775807 := rfl; omega
      have HMx : Hid (xs.length < maxLen) := hmx
      have HN2 : Hid (Maps.size (.map es) = xs.length) := HLk.out.len
      have HMP2 : Hid (MP w2 b xs) := ⟨es, HOwn2.out, HLk.out⟩
      clear z0 z1 z2 HBX HOwn HM1 HBw HAt hmx
      obtain ⟨B, hBh⟩ : ∃ B, hasC xs c r = B := ⟨_, rfl⟩
      rw [hBh] at HWl ⊢
      cases B with
      | true =>
        have HTk2 : Hid (tkF xs ⟨c, r, s⟩ = some (ps.wt xs ⟨c, r, s⟩)) := by
          show _ = _
          have h1 := HWl.out
          rw [if_pos rfl] at h1
          rw [HTk.out, if_pos (by rw [h1]; exact HLx.out)]
        go_wp2_with (first | (at_mapUpdate; refine wpList_mapUpdate_in _ rfl _ _ _ 62 rfl 23 25 key23 under_page mpg.anyR b xs.length (.map es) rfl HOwn2.out HMx.out _ _ (klF ⟨c, r, s⟩) rfl rfl HKL.out (.held (FVv ⟨c, r, s⟩)) [] rfl ?_; intro w3 hown3 hturn3))
        go_ret
        obtain ⟨h1, h2⟩ := HPut.out _ hown3 hturn3
        exact .inl ⟨_, HTk2.out, rfl, h1, h2⟩
      | false =>
        by_cases h200 : xs.length = 200
        · have h200' : (xs.length : Int) = 200 := by omega
          have HTk2 : Hid (tkF xs ⟨c, r, s⟩ = none) := by
            show _ = _
            have h1 := HWl.out
            rw [if_neg (by simp)] at h1
            rw [HTk.out, if_neg (by rw [h1]; omega)]
          have hlen : (Builtin.len_ #[62] 3 #[.map (some b)]).run Tryz.prog w2 = .ok (.int .i64 200) w2 := by
            have := HOwn2.out.len under_page 3
            rw [HN2.out, h200] at this
            exact this
          go_wp2_with fail
          go_ret
          exact .inr ⟨HTk2.out, rfl, HMP2.out, HBw2.out.1⟩
        · have h200' : ¬ (xs.length : Int) = 200 := by omega
          have HTk2 : Hid (tkF xs ⟨c, r, s⟩ = some (ps.wt xs ⟨c, r, s⟩)) := by
            show _ = _
            have h1 := HWl.out
            rw [if_neg (by simp)] at h1
            rw [HTk.out, if_pos (by rw [h1]; have := HLx.out; omega)]
          have hlen : (Builtin.len_ #[62] 3 #[.map (some b)]).run Tryz.prog w2 = .ok (.int .i64 (xs.length : Int)) w2 := by
            have := HOwn2.out.len under_page 3
            rw [HN2.out] at this
            exact this
          go_wp2_with (first | (at_mapUpdate; refine wpList_mapUpdate_in _ rfl _ _ _ 62 rfl 23 25 key23 under_page mpg.anyR b xs.length (.map es) rfl HOwn2.out HMx.out _ _ (klF ⟨c, r, s⟩) rfl rfl HKL.out (.held (FVv ⟨c, r, s⟩)) [] rfl ?_; intro w3 hown3 hturn3))
          go_ret
          obtain ⟨h1, h2⟩ := HPut.out _ hown3 hturn3
          exact .inl ⟨_, HTk2.out, rfl, h1, h2⟩
  · have HTk : Hid (tkF xs ⟨c, r, s⟩ = none) := by
      show _ = _
      unfold tkF
      rw [if_neg]
      rintro ⟨h1, h2, -⟩
      rw [if_pos h1] at hE0
      exact h0 (hE0.trans h2)
    have HC : Hid (Calls Tryz.prog 20 #[adr.C c r, .string s] (wx.alloc (.cells #[.int .i64 c, .int .i64 r, .string s] 25)) fun e w' => e = .returned (.iface 56 (.int .i64 E)) ∧ Bw (wx.alloc (.cells #[.int .i64 c, .int .i64 r, .string s] 25)) w') := by
      have := HCE.out
      rw [ps.errV_some h0] at this
      exact this
    clear HCE hE0 h0
    go_enter Tryz.func27, Tryz.ntmps27
    go_wp2_with (first | (go_at_call 20; refine HC.out.mono ?_; rintro e w1 ⟨rfl, hb1⟩))
    go_ret
    have hB1 := HB0.out.2.1.tr hb1
    exact .inr ⟨HTk.out, rfl, HB0.out.2.2.2.at (hB1.block b hbl), HB0.out.1.tr hB1⟩
end Go.Proofs.YtokfijkhflfioaaGreatDoor.fw

/- Package book: first. Conditions: as each theorem says. -/
namespace Go.Proofs.YtokfijkhflfioaaGreatDoor.fw
open Go.RowKit Go.Sort
/-- What first answers: an entry, and how many bytes it has; none. -/
def FsO (l : List UInt8) : Value := match ent l with
  | none => .tuple #[.agg #[.int .i64 0, .int .i64 0, .string nul], .int .i64 0]
  | some (c, r, t) => .tuple #[.agg #[.int .i64 (c.toNat : Int), .int .i64 (r.toNat : Int), .string (txt t)], .int .i64 ((t.length + 5 : Nat) : Int)]
theorem fs_short {l : List UInt8} (h : l.length < 3) : FsO l = .tuple #[.agg #[.int .i64 0, .int .i64 0, .string nul], .int .i64 0] := by
  unfold FsO
  match l with
  | [] => rfl
  | [_] => rfl
  | [_, _] => rfl
  | _ :: _ :: _ :: _ => exact absurd h (by simp only [List.length_cons]; omega)
theorem fs_cut {c r n : UInt8} {b : List UInt8} (h : b.length < n.toNat + 2) : FsO (c :: r :: n :: b) = .tuple #[.agg #[.int .i64 0, .int .i64 0, .string nul], .int .i64 0] := by
  unfold FsO ent
  simp only
  rw [if_neg (by omega)]
theorem sm2_two {s : Nat} (hs : s < 65536) (x y : UInt8) : [x, y] = [UInt8.ofNat (s % 256), UInt8.ofNat (s / 256)] ↔ (s : Int) = (x.toNat : Int) + (y.toNat : Int) * 256 := by
  have h1 : (UInt8.ofNat (s % 256)).toNat = s % 256 := by rw [UInt8.toNat_ofNat']; omega
  have h2 : (UInt8.ofNat (s / 256)).toNat = s / 256 := by rw [UInt8.toNat_ofNat']; omega
  constructor
  · intro h
    simp only [List.cons.injEq, and_true] at h
    obtain ⟨rfl, rfl⟩ := h
    rw [h1, h2]
    omega
  · intro h
    have hx := x.toNat_lt
    have hy := y.toNat_lt
    have e1 : x = UInt8.ofNat (s % 256) := UInt8.toNat_inj.1 (by rw [h1]; omega)
    have e2 : y = UInt8.ofNat (s / 256) := UInt8.toNat_inj.1 (by rw [h2]; omega)
    rw [← e1, ← e2]
theorem take2 {b : List UInt8} {n : Nat} {x y : UInt8} (hx : b[n]? = some x) (hy : b[n + 1]? = some y) : (b.drop n).take 2 = [x, y] := by
  obtain ⟨h1, e1⟩ := List.getElem?_eq_some_iff.1 hx
  obtain ⟨h2, e2⟩ := List.getElem?_eq_some_iff.1 hy
  rw [List.drop_eq_getElem_cons h1, List.drop_eq_getElem_cons h2, e1, e2]
  rfl
theorem fs_other {c r n x y : UInt8} {b : List UInt8} {s : Nat} (hx : b[n.toNat]? = some x) (hy : b[n.toNat + 1]? = some y) (hs : smN (c :: r :: n :: b.take n.toNat) = s) (h : ¬ (s : Int) = (x.toNat : Int) + (y.toNat : Int) * 256) : FsO (c :: r :: n :: b) = .tuple #[.agg #[.int .i64 0, .int .i64 0, .string nul], .int .i64 0] := by
  unfold FsO ent
  simp only
  rw [if_neg]
  rintro ⟨-, h2⟩
  rw [take2 hx hy] at h2
  unfold sm2 at h2
  rw [hs] at h2
  exact h ((sm2_two (by have := smN_lt (c :: r :: n :: b.take n.toNat); omega) x y).1 h2)
theorem fs_yes {c r n x y : UInt8} {b : List UInt8} {s : Nat} (hx : b[n.toNat]? = some x) (hy : b[n.toNat + 1]? = some y) (hs : smN (c :: r :: n :: b.take n.toNat) = s) (h : (s : Int) = (x.toNat : Int) + (y.toNat : Int) * 256) :
    FsO (c :: r :: n :: b) = .tuple #[.agg #[.int .i64 (c.toNat : Int), .int .i64 (r.toNat : Int), .string (txt (b.take n.toNat))], .int .i64 ((n.toNat : Int) + 5)] := by
  have hl := (List.getElem?_eq_some_iff.1 hy).1
  unfold FsO ent
  simp only
  rw [if_pos ⟨by omega, by rw [take2 hx hy]; unfold sm2; rw [hs]; exact (sm2_two (by have := smN_lt (c :: r :: n :: b.take n.toNat); omega) x y).2 h⟩]
  simp only
  rw [List.length_take, Nat.min_eq_left (by omega)]
  rfl
/-- The text of some bytes that lie somewhere. -/
theorem BM.text {w : World} {l : List UInt8} {p : Option Addr} {n c : Nat} (h : BM w (.slice p n c) l) {g o : Nat} (hp : p = some ⟨g, o, none⟩) (a k c' : Nat) (hk : a + k ≤ l.length) (m : Nat) :
    (convert 29 9 (.slice (some ⟨g, o + a, none⟩) k c')).run Tryz.prog (w.drewN m) = .ok (.string (txt ((l.drop a).take k))) (w.drewN m) := by
  obtain ⟨p', c2, e, hc⟩ := h
  cases e
  subst hp
  have hlk : ((l.drop a).take k).length = k := by rw [List.length_take, List.length_drop]; omega
  have h1 := run_convert_bytes_back (P := Tryz.prog) (w.drewN m) 29 9 5 ⟨g, o + a, none⟩ c' ((l.drop a).take k) Tryz.underlying29 Tryz.underlying5 Tryz.underlying9 (fun j hj => by
    rw [hlk] at hj
    obtain ⟨g2, o2, e2, h2⟩ := hc (a + j) _ (List.getElem?_eq_getElem (by omega))
    cases e2
    have hadd : (⟨g, o + a, none⟩ : Addr).add j = ⟨g, o + (a + j), none⟩ := by unfold Addr.add; split <;> simp_all [Nat.add_assoc]
    rw [hadd, List.getElem_take, List.getElem_drop]
    exact h2)
  rw [hlk] at h1
  exact h1
theorem res_first (tmps : Array Value) (w : World) (g : Nat) (a b c x : Value) (hp : tmps.getD 2 undef = .pointer (some ⟨g, 0, none⟩)) (hu : tmps.getD 3 undef = x) (hg : w.heap[g]? = some (.cells #[a, b, c] 25)) :
    (results Tryz.f26 tmps).run Tryz.prog w = .ok (.tuple #[.agg #[a, b, c], x]) w := by
  rw [results_cell_tmp (p := 2) (u := 3) (ty := 25) rfl, hp, hu]
  simp [asAddr, run_loadVar_row w g 25 25 #[a, b, c] (0, 0) _ hg Tryz.underlying25 rfl (by kernel_rfl), Result.andThen]
theorem set3 {wx : World} {g : Nat} {a b c : Value} {t : TypeId} (h : wx.heap[g]? = some (.cells #[a, b, c] t)) (a' b' c' : Value) : (((wx.setCell ⟨g, 0, none⟩ a').setCell ⟨g, 1, none⟩ b').setCell ⟨g, 2, none⟩ c').heap[g]? = some (.cells #[a', b', c'] t) := by
  have h1 := heap_setCell_same wx g 0 _ _ a' h
  have h2 := heap_setCell_same _ g 1 _ _ b' h1
  exact heap_setCell_same _ g 2 _ _ c' h2
theorem set3_bw {w wx : World} {g : Nat} (h : Bw w wx) (hg : w.heap.size ≤ g) (a' b' c' : Value) : Bw w (((wx.setCell ⟨g, 0, none⟩ a').setCell ⟨g, 1, none⟩ b').setCell ⟨g, 2, none⟩ c') :=
  ((h.setCell (p := ⟨g, 0, none⟩) hg _).setCell (p := ⟨g, 1, none⟩) hg _).setCell (p := ⟨g, 2, none⟩) hg _
abbrev SF (w : World) (g a b : Nat) (x y : UInt8) (wx : World) : Prop := wx.cell? ⟨g, a, none⟩ = some (.int .u8 (x.toNat : Int)) ∧ wx.cell? ⟨g, b, none⟩ = some (.int .u8 (y.toNat : Int)) ∧ Bw w wx
theorem bm_set {w : World} {v : Value} {xs : List UInt8} (h : BM w v xs) (B i : Nat) (u : Value) (hB : ∀ g o, v = .slice (some ⟨g, o, none⟩) xs.length (match v with | .slice _ _ c => c | _ => 0) → g ≠ B) : BM (w.setCell ⟨B, i, none⟩ u) v xs := by
  obtain ⟨p, c, rfl, h⟩ := h
  refine ⟨p, c, rfl, fun j x hx => ?_⟩
  obtain ⟨g, o, rfl, h1⟩ := h j x hx
  exact ⟨g, o, rfl, by rw [World.cell?_setCell_far w ⟨B, i, none⟩ ⟨g, o + j, none⟩ u (fun e => hB g o rfl e.symm)]; exact h1⟩
abbrev S3 (B g a k cc : Nat) (l : List UInt8) (c r : UInt8) (t : ByteArray) (wx : World) : Prop := wx.cell? ⟨g, a, none⟩ = some (.int .u8 (c.toNat : Int)) ∧ wx.cell? ⟨g, a + 1, none⟩ = some (.int .u8 (r.toNat : Int)) ∧
  (∀ c', (convert 29 9 (.slice (some ⟨g, a + 3, none⟩) k c')).run Tryz.prog wx = .ok (.string t) wx) ∧ Hid (BM wx (.slice (some ⟨g, a, none⟩) l.length cc) l ∧ g ≠ B)
theorem s3_of {B g a k cc : Nat} {l : List UInt8} {c r : UInt8} {wx : World} (h : BM wx (.slice (some ⟨g, a, none⟩) l.length cc) l) (hc : l[0]? = some c) (hr : l[1]? = some r) (hk : 3 + k ≤ l.length) (hB : g ≠ B) : S3 B g a k cc l c r (txt ((l.drop 3).take k)) wx := by
  have h2 := h
  obtain ⟨p, c', e, h3⟩ := h
  cases e
  refine ⟨?_, ?_, fun c' => h2.text rfl 3 k c' hk 0, ⟨h2, hB⟩⟩
  · obtain ⟨g2, o2, e, h4⟩ := h3 0 c hc
    cases e
    exact h4
  · obtain ⟨g2, o2, e, h4⟩ := h3 1 r hr
    cases e
    exact h4
theorem s3_set {B g a k cc : Nat} {l : List UInt8} {c r : UInt8} {wx : World} {t : ByteArray} (h : S3 B g a k cc l c r t wx) (hc : l[0]? = some c) (hr : l[1]? = some r) (hk : 3 + k ≤ l.length) (ht : t = txt ((l.drop 3).take k)) (u v z : Value) : S3 B g a k cc l c r t (((wx.setCell ⟨B, 0, none⟩ u).setCell ⟨B, 1, none⟩ v).setCell ⟨B, 2, none⟩ z) := by
  have hB : ∀ g2 o2, (.slice (some ⟨g, a, none⟩) l.length cc : Value) = .slice (some ⟨g2, o2, none⟩) l.length cc → g2 ≠ B := fun g2 o2 e => by
    cases e
    exact h.2.2.2.out.2
  subst ht
  exact s3_of (bm_set (bm_set (bm_set h.2.2.2.out.1 B 0 u hB) B 1 v hB) B 2 z hB) hc hr hk h.2.2.2.out.2
theorem sfb {w : World} {g a b : Nat} {x y : UInt8} {wx : World} (h : SF w g a b x y wx) : Bw w wx := h.2.2
set_option maxRecDepth 1000000 in
set_option maxHeartbeats 8000000 in
theorem first_any (p : Option Addr) (cc : Nat) (l : List UInt8) (w : World) (hv : BM w (.slice p l.length cc) l) (hcc : l.length ≤ cc) (hl : l.length ≤ 281474976710656) : Calls Tryz.prog 26 #[.slice p l.length cc] w fun e w' => e = .returned (FsO l) ∧ Bw w w' := by
  have HV : Hid (BM w (.slice p l.length cc) l) := hv
  clear hv
  by_cases h3 : l.length < 3
  · rw [fs_short h3]
    have h3' : (l.length : Int) < 3 := by omega
    go_enter Tryz.func26, Tryz.ntmps26
    go_wp2_with fail
    exact bodyPost_ret (res_first _ _ w.heap.size _ _ _ _ rfl rfl (heap_alloc_new w _)) rfl ⟨rfl, Bw.al w _⟩
  · obtain ⟨c, r, n, b, rfl⟩ : ∃ c r n b, l = c :: r :: n :: b := by
      match l, h3 with
      | [], h => exact absurd (by simp) h
      | [_], h => exact absurd (by simp) h
      | [_, _], h => exact absurd (by simp) h
      | c :: r :: n :: b, _ => exact ⟨c, r, n, b, rfl⟩
    clear h3
    obtain ⟨m, hm⟩ : ∃ m, b.length = m := ⟨_, rfl⟩
    have hlen : (c :: r :: n :: b).length = m + 3 := by rw [← hm]; rfl
    have HLEN : Hid ((c :: r :: n :: b).length = m + 3) := hlen
    have hm9 : (m : Int) ≤ 281474976710656 := by omega
    have hm0 : (0 : Int) ≤ (m : Int) := by omega
    obtain ⟨p2, c2, e2, hc⟩ := HV.out
    cases e2
    obtain ⟨g, o, rfl, y0⟩ := hc 0 c rfl
    have y1 : w.cell? ⟨g, o + 1, none⟩ = some (.int .u8 (r.toNat : Int)) := by
      obtain ⟨g2, o2, e, h⟩ := hc 1 r rfl
      cases e
      exact h
    have y2 : w.cell? ⟨g, o + 2, none⟩ = some (.int .u8 (n.toNat : Int)) := by
      obtain ⟨g2, o2, e, h⟩ := hc 2 n rfl
      cases e
      exact h
    have hn9 : (n.toNat : Int) < 256 := by have := n.toNat_lt; omega
    have hn0 : (0 : Int) ≤ (n.toNat : Int) := by omega
    have hg : g < w.heap.size := World.block_lt_of_cell? w _ y0
    rw [hlen]
    obtain ⟨k, hk⟩ : ∃ k, n.toNat = k := ⟨_, rfl⟩
    by_cases hcut : m < k + 2
    · rw [fs_cut (by rw [hm, hk]; exact hcut)]
      rw [hk] at y2 hn9 hn0
      have hcut' : (m : Int) + 3 < 3 + (k : Int) + 2 := by omega
      clear hc hm hlen
      go_enter Tryz.func26, Tryz.ntmps26
      go_wp2_with fail
      go_quiet (fail)
      go_wp2_with fail
      exact bodyPost_ret (res_first _ _ w.heap.size _ _ _ _ rfl rfl (set3 (heap_alloc_new w _) _ _ _)) rfl ⟨rfl, set3_bw ((Bw.al w _).tr (drawn_bw _ _)) (Nat.le_refl _) _ _ _⟩
    · have hy2 := y2
      rw [hk] at y2 hn9 hn0
      obtain ⟨x, hx⟩ : ∃ x, b[k]? = some x := ⟨_, List.getElem?_eq_getElem (by omega)⟩
      obtain ⟨y, hy⟩ : ∃ y, b[k + 1]? = some y := ⟨_, List.getElem?_eq_getElem (by omega)⟩
      have z0 : w.cell? ⟨g, o + (3 + k), none⟩ = some (.int .u8 (x.toNat : Int)) := by
        obtain ⟨g2, o2, e, h⟩ := hc (3 + k) x (by rw [show 3 + k = k + 3 by omega]; exact hx)
        cases e
        exact h
      have z1 : w.cell? ⟨g, o + (3 + k + 1), none⟩ = some (.int .u8 (y.toNat : Int)) := by
        obtain ⟨g2, o2, e, h⟩ := hc (3 + k + 1) y (by rw [show 3 + k + 1 = k + 1 + 3 by omega]; exact hy)
        cases e
        exact h
      obtain ⟨sm, hs⟩ : ∃ sm, smN (c :: r :: n :: b.take k) = sm := ⟨_, rfl⟩
      have HSum : Hid (∀ wx, Bw w wx → Calls Tryz.prog 33 #[.slice (some ⟨g, o, none⟩) (3 + k) cc] wx fun e w' => e = .returned (.int .i64 (sm : Int)) ∧ w' = wx) := fun wx hb => by
        have hB : BM wx (.slice (some ⟨g, o, none⟩) (3 + k) cc) (c :: r :: n :: b.take k) := by
          have hB0 := HV.out.next hb
          obtain ⟨p3, c3, e3, h3⟩ := hB0
          cases e3
          refine ⟨_, _, by simp only [List.length_cons, List.length_take]; rw [Nat.min_eq_left (by omega)]; rw [show k + 1 + 1 + 1 = 3 + k by omega], fun i z hz => ?_⟩
          refine h3 i z ?_
          have e : c :: r :: n :: b.take k = (c :: r :: n :: b).take (k + 3) := rfl
          rw [e, List.getElem?_take] at hz
          split at hz
          · exact hz
          · cases hz
        have := sum_any _ _ wx hB (by simp only [List.length_cons, List.length_take]; omega)
        rw [hs] at this
        exact this
      have hx9 : (x.toNat : Int) < 256 := by have := x.toNat_lt; omega
      have hy9 : (y.toNat : Int) < 256 := by have := y.toNat_lt; omega
      have hx0 : (0 : Int) ≤ (x.toNat : Int) := by omega
      have hy0 : (0 : Int) ≤ (y.toNat : Int) := by omega
      have hcut' : ¬ (m : Int) + 3 < 3 + (k : Int) + 2 := by omega
      have HFs : Hid (FsO (c :: r :: n :: b) = if (sm : Int) = (x.toNat : Int) + (y.toNat : Int) * 256 then .tuple #[.agg #[.int .i64 (c.toNat : Int), .int .i64 (r.toNat : Int), .string (txt (b.take k))], .int .i64 ((k : Int) + 5)] else .tuple #[.agg #[.int .i64 0, .int .i64 0, .string nul], .int .i64 0]) := by
        show _ = _
        split
        · rename_i h
          rw [fs_yes (by rw [hk]; exact hx) (by rw [hk]; exact hy) (by rw [hk]; exact hs) h, hk]
        · rename_i h
          rw [fs_other (by rw [hk]; exact hx) (by rw [hk]; exact hy) (by rw [hk]; exact hs) h]
      have HTx : Hid (∀ wx j c', Bw w wx → (convert 29 9 (.slice (some ⟨g, o + 3, none⟩) k c')).run Tryz.prog (wx.drewN j) = .ok (.string (txt (b.take k))) (wx.drewN j)) := fun wx j c' hb => (HV.out.next hb).text rfl 3 k c' (by rw [HLEN.out]; omega) j
      have HSO : Hid (∀ wx, Bw w wx → SF w g (o + (3 + k)) (o + (3 + k + 1)) x y wx) := fun wx hb => ⟨by rw [hb.cell (p := ⟨g, _, none⟩) hg]; exact z0, by rw [hb.cell (p := ⟨g, _, none⟩) hg]; exact z1, hb⟩
      have hb1 : Bw w (w.alloc (.cells #[.int .i64 0, .int .i64 0, .string nul] 25)) := Bw.al w _
      have h0d := HSO.out _ (hb1.tr (Below.refl _ _).drew)
      have hw1 : IntKind.i64.wrap (3 + (k : Int) + 2) = 3 + (k : Int) + 2 := Go.IntWalk.i64_in _ (by omega)
      have hw2 : IntKind.i64.wrap (3 + (k : Int) + 1) = 3 + (k : Int) + 1 := Go.IntWalk.i64_in _ (by omega)
      have hw3 : (3 + (k : Int)).toNat = 3 + k := by omega
      have hw4 : (3 + (k : Int) + 1).toNat = 3 + k + 1 := by omega
      have hw5 : (0 : Int) ≤ 3 + (k : Int) := by omega
      have hw6 : 3 + (k : Int) ≤ (cc : Int) := by rw [hlen] at hcc; omega
      have hw7 : 3 + (k : Int) < (m : Int) + 3 := by omega
      have hw8 : 3 + (k : Int) + 1 < (m : Int) + 3 := by omega
      have hw9 : (0 : Int) ≤ 3 + (k : Int) + 1 := by omega
      have hw10 : (3 : Int) ≤ 3 + (k : Int) := by omega
      have hd1 : decide ((m : Int) + 3 < 3 + (k : Int) + 2) = false := decide_eq_false (by omega)
      clear hc hm hlen hy2 hs hx hy
      go_enter Tryz.func26, Tryz.ntmps26
      go_wp2_with fail
      go_region_held3 (fun wx => SF w g (o + (3 + k)) (o + (3 + k + 1)) x y wx) (first | exact h0d | assumption | exact HSO.out _ ((sfb (by assumption)).tr (by assumption))) (first | (go_at_call 33; refine (HSum.out _ (sfb (by assumption))).mono ?_; rintro e w2 ⟨rfl, rfl⟩))
      have hv1 : IntKind.i64.wrap (x.toNat : Int) = (x.toNat : Int) := Go.IntWalk.i64_in _ (by omega)
      have hv2 : IntKind.i64.wrap (y.toNat : Int) = (y.toNat : Int) := Go.IntWalk.i64_in _ (by omega)
      have hv3 : IntKind.i64.wrap ((y.toNat : Int) * 256) = (y.toNat : Int) * 256 := Go.IntWalk.i64_in _ (by omega)
      have hv4 : IntKind.i64.wrap ((x.toNat : Int) + (y.toNat : Int) * 256) = (x.toNat : Int) + (y.toNat : Int) * 256 := Go.IntWalk.i64_in _ (by omega)
      rw [hv1, hv2, hv3, hv4]
      obtain ⟨W2, hW2⟩ : ∃ W2, W2 = (w.alloc (.cells #[.int .i64 0, .int .i64 0, .string nul] 25)).drew := ⟨_, rfl⟩
      have HB2 : Hid (Bw w W2) := by
        show Bw _ _
        rw [hW2]
        exact hb1.tr (Below.refl _ _).drew
      have HG2 : Hid (W2.heap[w.heap.size]? = some (.cells #[.int .i64 0, .int .i64 0, .string nul] 25)) := by
        show _ = _
        rw [hW2]
        exact heap_alloc_new w _
      rw [← hW2]
      clear hW2 y0 y1 y2 z0 z1 hv1 hv2 hv3 hv4 h0d hb1 HSum HSO HTx
      by_cases heq : (sm : Int) = (x.toNat : Int) + (y.toNat : Int) * 256
      · have hb0 : ((sm : Int) != (x.toNat : Int) + (y.toNat : Int) * 256) = false := by rw [bne_eq_false_iff_eq]; exact heq
        rw [hb0]
        have HF2 : Hid (FsO (c :: r :: n :: b) = .tuple #[.agg #[.int .i64 (c.toNat : Int), .int .i64 (r.toNat : Int), .string (txt (b.take k))], .int .i64 ((k : Int) + 5)]) := by
          show _ = _
          rw [HFs.out, if_pos heq]
        clear heq hb0 HFs
        have hi0 : (0 : Int) < (m : Int) + 3 := by omega
        have hi1 : (1 : Int) < (m : Int) + 3 := by omega
        have hkk : 3 + k - 3 = k := by omega
        have hc3 : ¬ cc = 3 := by rw [HLEN.out] at hcc; omega
        go_wp2_with fail
        have h0d := s3_of (B := w.heap.size) (k := k) (HV.out.next (HB2.out.tr (Below.refl _ W2).drew)) rfl rfl (by rw [HLEN.out]; omega) (by omega)
        obtain ⟨y0, y1, y2, -⟩ := h0d
        have hcv := y2 (cc - 3)
        obtain ⟨x0, x1, x2⟩ := cells3q HG2.out
        have f0 : W2.frozen? ⟨w.heap.size, 0, none⟩ = false := by simp [World.frozen?, HG2.out]
        have f1 : W2.frozen? ⟨w.heap.size, 1, none⟩ = false := by simp [World.frozen?, HG2.out]
        have f2 : W2.frozen? ⟨w.heap.size, 2, none⟩ = false := by simp [World.frozen?, HG2.out]
        clear HV hcc hl HLEN
        go_region
        have hv1 : wrap64 (c.toNat : Int) = (c.toNat : Int) := Go.IntWalk.wrap64_in _ (by have := c.toNat_lt; omega)
        have hv2 : wrap64 (r.toNat : Int) = (r.toNat : Int) := Go.IntWalk.wrap64_in _ (by have := r.toNat_lt; omega)
        rw [hv1, hv2]
        have HG3 : Hid (∀ a' b' c', ((((W2.setCell ⟨w.heap.size, 0, none⟩ a').setCell ⟨w.heap.size, 1, none⟩ b').setCell ⟨w.heap.size, 2, none⟩ c').drew).heap[w.heap.size]? = some (.cells #[a', b', c'] 25)) := fun a' b' c' => set3 HG2.out a' b' c'
        have HB3 : Hid (∀ a' b' c', Bw w ((((W2.setCell ⟨w.heap.size, 0, none⟩ a').setCell ⟨w.heap.size, 1, none⟩ b').setCell ⟨w.heap.size, 2, none⟩ c').drew)) := fun a' b' c' => (set3_bw HB2.out (Nat.le_refl _) a' b' c').tr (Below.refl _ _).drew
        clear hcv y0 y1 y2 x0 x1 x2 f0 f1 f2 HG2 HB2
        go_wp2_with fail
        refine bodyPost_ret (res_first _ _ w.heap.size _ _ _ _ rfl rfl (HG3.out _ _ _)) rfl ?_
        refine ⟨?_, HB3.out _ _ _⟩
        rw [HF2.out, show (k : Int) + 5 = 3 + (k : Int) + 2 by omega]
        rfl
      · have hb0 : ((sm : Int) != (x.toNat : Int) + (y.toNat : Int) * 256) = true := by rw [bne_iff_ne]; exact heq
        rw [hb0]
        have HF2 : Hid (FsO (c :: r :: n :: b) = .tuple #[.agg #[.int .i64 0, .int .i64 0, .string nul], .int .i64 0]) := by
          show _ = _
          rw [HFs.out, if_neg heq]
        obtain ⟨x0, x1, x2⟩ := cells3q HG2.out
        have f0 : W2.frozen? ⟨w.heap.size, 0, none⟩ = false := by simp [World.frozen?, HG2.out]
        have f1 : W2.frozen? ⟨w.heap.size, 1, none⟩ = false := by simp [World.frozen?, HG2.out]
        have f2 : W2.frozen? ⟨w.heap.size, 2, none⟩ = false := by simp [World.frozen?, HG2.out]
        clear heq hb0 HFs
        go_wp2_with fail
        have HG3 : Hid (∀ a' b' c', (((W2.setCell ⟨w.heap.size, 0, none⟩ a').setCell ⟨w.heap.size, 1, none⟩ b').setCell ⟨w.heap.size, 2, none⟩ c').heap[w.heap.size]? = some (.cells #[a', b', c'] 25)) := set3 HG2.out
        refine bodyPost_ret (res_first _ _ w.heap.size _ _ _ _ rfl rfl (HG3.out _ _ _)) rfl ?_
        exact ⟨by rw [HF2.out]; rfl, set3_bw HB2.out (Nat.le_refl _) _ _ _⟩
end Go.Proofs.YtokfijkhflfioaaGreatDoor.fw

/- Package book: Open. Conditions: as each theorem says. -/
namespace Go.Proofs.YtokfijkhflfioaaGreatDoor.fw
open Go Go.RowKit Go.Sort Go.Maps
def okT (s : ByteArray) : Bool := decide (ftx s = 0)
theorem okT_le (s : ByteArray) (h : okT s = true) : s.size ≤ 200 := ftx_le (of_decide_eq_true h)
theorem set_tk (xs : List ps.Fl) (c r : UInt8) (t : List UInt8) : setF okT xs c r t = tkF xs ⟨(c.toNat : Int), (r.toNat : Int), txt t⟩ := by
  unfold setF tkF
  have h : ((1 ≤ c.toNat ∧ c.toNat ≤ 26) ∧ (1 ≤ r.toNat ∧ r.toNat ≤ 99) ∧ okT (txt t) = true ∧ (ps.wt xs ⟨(c.toNat : Int), (r.toNat : Int), txt t⟩).length ≤ 200) ↔ (adr.isC (c.toNat : Int) (r.toNat : Int) = true ∧ ftx (txt t) = 0 ∧ (ps.wt xs ⟨(c.toNat : Int), (r.toNat : Int), txt t⟩).length ≤ 200) := by
    rw [adr.isC_iff]
    unfold okT
    rw [decide_eq_true_eq]
    constructor
    · rintro ⟨h1, h2, h3, h4⟩; exact ⟨⟨by omega, by omega⟩, h3, h4⟩
    · rintro ⟨h1, h3, h4⟩; exact ⟨by omega, by omega, h3, h4⟩
  simp only [h]
/-- What is there of bytes, from a sheet on. -/
def opE (xs : List ps.Fl) (b : List UInt8) : List ps.Fl × Nat := opn (setF okT) b.length xs b
theorem opE_none {xs : List ps.Fl} {b : List UInt8} (h : ent b = none) : opE xs b = (xs, 0) := by
  unfold opE
  cases b.length with
  | zero => rfl
  | succ k =>
    show (match ent b with | none => (xs, 0) | some (c, r, t) => _) = _
    rw [h]
theorem opE_no {xs : List ps.Fl} {b : List UInt8} {c r : UInt8} {t : List UInt8} (h : ent b = some (c, r, t)) (h2 : setF okT xs c r t = none) : opE xs b = (xs, 0) := by
  unfold opE
  cases b.length with
  | zero => rfl
  | succ k =>
    show (match ent b with | none => (xs, 0) | some (c, r, t) => _) = _
    rw [h]
    simp only [h2]
theorem opE_step {xs ys : List ps.Fl} {b : List UInt8} {c r : UInt8} {t : List UInt8} (h : ent b = some (c, r, t)) (h2 : setF okT xs c r t = some ys) : opE xs b = ((opE ys (b.drop (t.length + 5))).1, t.length + 5 + (opE ys (b.drop (t.length + 5))).2) := by
  have hl := (ent_length h).1
  unfold opE
  obtain ⟨k, hk⟩ : ∃ k, b.length = k + 1 := ⟨b.length - 1, by omega⟩
  rw [hk]
  show (match ent b with | none => (xs, 0) | some (c, r, t) => _) = _
  rw [h]
  simp only [h2]
  rw [opn_enough (setF okT) k ys (b.drop (t.length + 5)) (by rw [List.length_drop]; omega)]
theorem tk_srt {xs ys : List ps.Fl} {f : ps.Fl} (h : tkF xs f = some ys) (hs : ps.Srt xs) : ps.Srt ys ∧ ys.length ≤ 200 := by
  unfold tkF at h
  split at h
  · rename_i hc
    obtain rfl := Option.some.inj h
    exact ⟨ps.wt_srt hs f, hc.2.2⟩
  · cases h
theorem make_page (wx : World) : (Instr.makeMap 62 none).run Tryz.prog wx = .ok (.map (some wx.heap.size)) (wx.alloc (.map #[] 0)) := by
  simp [Instr.makeMap, go_sem]
/-- What Open answers. -/
def OpO (w : World) (l : List UInt8) (e : Ending) (w' : World) : Prop := (∃ q cq, e = .returned (.tuple #[.slice q (opE [] l).1.length cq, .int .i64 ((opE [] l).2 : Int)]) ∧ ps.FM w' q (opE [] l).1) ∧ Bw w w'
/-- The bytes from a place on. -/
theorem bm_drop {w : World} {g o c : Nat} {l : List UInt8} (h : BM w (.slice (some ⟨g, o, none⟩) l.length c) l) (a : Nat) (_ha : a ≤ l.length) (q : Option Addr) (hq : q = some ⟨g, o + a, none⟩ ∨ a = l.length) (c' : Nat) : BM w (.slice q (l.drop a).length c') (l.drop a) := by
  obtain ⟨p2, c2, e, hc⟩ := h
  cases e
  refine ⟨q, c', rfl, fun i x hx => ?_⟩
  rcases hq with rfl | hq
  · rw [List.getElem?_drop] at hx
    obtain ⟨g2, o2, e, h2⟩ := hc (a + i) x hx
    cases e
    exact ⟨g, o + a, rfl, by rw [Nat.add_assoc]; exact h2⟩
  · rw [hq, List.drop_length] at hx
    cases hx
structure OI (w : World) (l : List UInt8) (at' : Nat) (xs : List ps.Fl) (wr : World) : Prop where
  below : Bw w wr
  mp : MP wr w.heap.size xs
  srt : ps.Srt xs
  few : xs.length ≤ 200
  le : at' ≤ l.length
  eq : opE [] l = ((opE xs (l.drop at')).1, at' + (opE xs (l.drop at')).2)
set_option maxRecDepth 1000000 in
set_option maxHeartbeats 8000000 in
theorem open_any (p : Option Addr) (c : Nat) (l : List UInt8) (w : World) (hv : BM w (.slice p l.length c) l) (hcc : l.length ≤ c) (hl : l.length ≤ 140737488355328) (hE : ps.EnvP w) : Calls Tryz.prog 15 #[.slice p l.length c] w fun e w' => OpO w l e w' := by
  have HV : Hid (BM w (.slice p l.length c) l) := hv
  have HE : Hid (ps.EnvP w) := hE
  have hl9 : (l.length : Int) ≤ 140737488355328 := by omega
  obtain ⟨n, hn⟩ : ∃ n, l.length = n := ⟨_, rfl⟩
  have HN : Hid (l.length = n) := hn
  rw [hn] at hl9 hcc ⊢
  have hcc' : (n : Int) ≤ (c : Int) := by omega
  clear hv hE
  have hmk := make_page
  go_enter Tryz.func15, Tryz.ntmps15
  go_wp2_with fail
  have HI0 : Hid (OI w l 0 [] (w.alloc (.map #[] 0))) := ⟨Bw.al w _, mpg.MG.nil w, List.Pairwise.nil, Nat.zero_le _, Nat.zero_le _, by rw [List.drop_zero]; simp⟩
  clear hmk
  generalize w.alloc (.map #[] 0) = W0 at *
  go_loopw [5] (fun s5 wr => ∃ (a : Nat) (xs : List ps.Fl), s5 = .int .i64 (a : Int) ∧ a ≤ n ∧ Hid (OI w l a xs wr)) (fun s5 _ => n - (intOf s5).toNat)
  case atStart => exact ⟨0, [], rfl, Nat.zero_le _, HI0.out⟩
  case round =>
    clear HI0
    obtain ⟨a, xs, rfl, ha, HI⟩ := hrel
    have ha0 : (0 : Int) ≤ (a : Int) := by omega
    have ha9 : (a : Int) ≤ (n : Int) := by omega
    have ha2 : (a : Int) ≤ (c : Int) := by omega
    have hdl : (l.drop a).length = n - a := by rw [List.length_drop, HN.out]
    obtain ⟨f, lg, hfs⟩ : ∃ (f : ps.Fl) (lg : Int), FsO (l.drop a) = .tuple #[FVv f, .int .i64 lg] := by
      unfold FsO
      cases ent (l.drop a) with
      | none => exact ⟨⟨0, 0, nul⟩, 0, rfl⟩
      | some e => exact ⟨⟨(e.1.toNat : Int), (e.2.1.toNat : Int), txt e.2.2⟩, _, rfl⟩
    have HFS : Hid (FsO (l.drop a) = .tuple #[FVv f, .int .i64 lg]) := hfs
    have hcall : ∀ q c', BM wr (.slice q (l.drop a).length c') (l.drop a) → n - a ≤ c' → Calls Tryz.prog 26 #[.slice q (n - a) c'] wr fun e w' => e = .returned (.tuple #[.agg #[.int .i64 f.c, .int .i64 f.r, .string f.s], .int .i64 lg]) ∧ Bw wr w' := fun q c' hb h2 => by
      have := first_any q c' (l.drop a) wr hb (by rw [hdl]; exact h2) (by rw [hdl]; have := HN.out; omega)
      rw [hdl, hfs] at this
      exact this
    have HF : Hid (Calls Tryz.prog 26 #[.slice (Option.map (fun x => x.add a) p) (n - a) (c - a)] wr fun e w' => e = .returned (.tuple #[.agg #[.int .i64 f.c, .int .i64 f.r, .string f.s], .int .i64 lg]) ∧ Bw wr w') := by
      refine hcall _ _ ?_ (by omega)
      cases hl0 : l with
      | nil => exact ⟨_, _, rfl, fun i x hx => by simp at hx⟩
      | cons x l' =>
        have h0 := HV.out.next HI.out.below
        obtain ⟨p2, c2, e, hc⟩ := HV.out
        cases e
        obtain ⟨g, o, rfl, -⟩ := hc 0 x (by rw [hl0]; rfl)
        rw [← hl0]
        exact bm_drop h0 a (by rw [HN.out]; exact ha) _ (.inl (by simp [Addr.add])) (c - a)
    have HFz : Hid (c = a → Calls Tryz.prog 26 #[.slice p (n - a) 0] wr fun e w' => e = .returned (.tuple #[.agg #[.int .i64 f.c, .int .i64 f.r, .string f.s], .int .i64 lg]) ∧ Bw wr w') := fun h => by
      have hna : n = a := by omega
      refine hcall _ _ ⟨_, _, rfl, fun i x hx => ?_⟩ (by omega)
      rw [List.drop_of_length_le (by rw [HN.out]; omega)] at hx
      cases hx
    clear hcall hfs
    go_upto_region 3 with fail
    go_cut [6, 7] (fun s6 s7 wx => ∃ wf, Bw wr wf ∧ s6 = .pointer (some ⟨wf.heap.size, 0, none⟩) ∧ wx = wf.alloc (.cells #[.int .i64 f.c, .int .i64 f.r, .string f.s] 25) ∧ s7 = .int .i64 lg)
    case first =>
      by_cases hca : c = a
      · have HFz2 : Hid (Calls Tryz.prog 26 #[.slice p 0 0] wr fun e w' => e = .returned (.tuple #[.agg #[.int .i64 f.c, .int .i64 f.r, .string f.s], .int .i64 lg]) ∧ Bw wr w') := by
          have := HFz.out hca
          rw [show n - a = 0 by omega] at this
          exact this
        clear HF HFz HV HE HI HFS
        subst hca
        go_wp2_with (first | (go_at_call 26; with_reducible refine HFz2.out.mono ?_; rintro e wf ⟨rfl, hbf⟩))
        go_meet
        case rel => exact ⟨wf, hbf, rfl, rfl, rfl⟩
      · clear HFz HV HE HI HFS
        go_wp2_with (first | (go_at_call 26; with_reducible refine HF.out.mono ?_; rintro e wf ⟨rfl, hbf⟩))
        go_meet
        case rel => exact ⟨wf, hbf, rfl, rfl, rfl⟩
    case rest =>
    obtain ⟨wf, hbf, rfl, rfl, rfl⟩ := hcut
    have HIx : Hid (OI w l a xs (wf.alloc (.cells #[.int .i64 f.c, .int .i64 f.r, .string f.s] 25))) := by
      have hb2 : Bw wr (wf.alloc (.cells #[.int .i64 f.c, .int .i64 f.r, .string f.s] 25)) := hbf.tr (Bw.al wf _)
      exact ⟨HI.out.below.tr hb2, HI.out.mp.at (hb2.block _ HI.out.mp.lt), HI.out.srt, HI.out.few, HI.out.le, HI.out.eq⟩
    obtain ⟨y0, y1, y2⟩ := cells3q (heap_alloc_new wf (.cells #[.int .i64 f.c, .int .i64 f.r, .string f.s] 25))
    generalize wf.alloc (.cells #[.int .i64 f.c, .int .i64 f.r, .string f.s] 25) = W1 at *
    have HLi : Hid (∀ wx, OI w l a xs wx → Calls Tryz.prog 28 #[.map (some w.heap.size)] wx fun e w' => (∃ q cq, e = .returned (.slice q xs.length cq) ∧ ps.FM w' q xs) ∧ Bw wx w') := fun wx h => list_any w.heap.size xs (by have := h.few; omega) h.srt wx h.mp
    clear HI HF HFz hbf
    apply_assumption
    cases hent : ent (l.drop a) with
    | none =>
      have HQ : Hid (opE [] l = (xs, a)) := by
        show _ = _
        rw [HIx.out.eq, opE_none hent]
        rfl
      obtain ⟨e1, e2⟩ : FVv f = .agg #[.int .i64 0, .int .i64 0, .string nul] ∧ lg = 0 := by
        have := HFS.out
        unfold FsO at this
        rw [hent] at this
        simp at this
        obtain ⟨⟨h1, h2, h3⟩, h4⟩ := this
        exact ⟨by rw [FVv, ← h1, ← h2, ← h3], h4.symm⟩
      subst e2
      clear e1 HFS
      go_wp2_with (first | (go_at_call 28; refine (HLi.out _ HIx.out).mono ?_; rintro e w2 ⟨⟨q, cq, rfl, hfm⟩, hb2⟩))
      exact bodyPost_ret (v := .tuple #[.slice q xs.length cq, .int .i64 (a : Int)]) (by simp [results, Tryz.results15, go_sem]) rfl ⟨⟨q, cq, by rw [HQ.out], by rw [HQ.out]; exact hfm⟩, HIx.out.below.tr hb2⟩
    | some e =>
      obtain ⟨ec, er, t⟩ := e
      obtain ⟨k, hk⟩ : ∃ k, t.length + 5 = k := ⟨_, rfl⟩
      have hkl : k ≤ n - a ∧ t.length < 256 := by
        have := ent_length hent
        rw [hdl] at this
        omega
      obtain ⟨e1, rfl⟩ : f = ⟨(ec.toNat : Int), (er.toNat : Int), txt t⟩ ∧ lg = (k : Int) := by
        have := HFS.out
        unfold FsO at this
        rw [hent] at this
        simp only [Value.tuple.injEq] at this
        simp at this
        obtain ⟨⟨h1, h2, h3⟩, h4⟩ := this
        refine ⟨?_, by omega⟩
        rw [h1, h2, h3]
      have hf1 : 0 ≤ f.c ∧ f.c < 256 := by rw [e1]; have := ec.toNat_lt; dsimp only; omega
      have hf2 : 0 ≤ f.r ∧ f.r < 256 := by rw [e1]; have := er.toNat_lt; dsimp only; omega
      have hst : setF okT xs ec er t = tkF xs f := by rw [set_tk, e1]
      have HTk : Hid (Calls Tryz.prog 27 #[.map (some w.heap.size), .agg #[.int .i64 f.c, .int .i64 f.r, .string f.s]] W1 fun e w' => TkO w w.heap.size xs f e w') := takes_any w w.heap.size (Nat.le_refl _) xs f W1 HIx.out.below HIx.out.mp HIx.out.srt HIx.out.few HE.out hf1 hf2
      have hk0 : ¬ (k : Int) = 0 := by omega
      clear HFS e1 hf1 hf2
      cases htk : tkF xs f with
      | none =>
        have HQ : Hid (opE [] l = (xs, a)) := by
          show _ = _
          rw [HIx.out.eq, opE_no hent (hst.trans htk)]
          rfl
        have HTn : Hid (Calls Tryz.prog 27 #[.map (some w.heap.size), .agg #[.int .i64 f.c, .int .i64 f.r, .string f.s]] W1 fun e w' => e = .returned (.bool false) ∧ OI w l a xs w') := HTk.out.mono fun e w' h => by
          rcases h with ⟨ys, h1, -⟩ | ⟨-, h2, h3, h4⟩
          · rw [htk] at h1; cases h1
          · exact ⟨h2, ⟨h4, h3, HIx.out.srt, HIx.out.few, HIx.out.le, HIx.out.eq⟩⟩
        clear HTk
        go_wp2_with (first | (go_at_call 27; refine HTn.out.mono ?_; rintro e w2 ⟨rfl, hOI⟩; have HO2 : Hid (OI w l a xs w2) := hOI; clear hOI) | (go_at_call 28; refine (HLi.out _ HO2.out).mono ?_; rintro e w3 ⟨⟨q, cq, rfl, hfm⟩, hb3⟩))
        exact bodyPost_ret (v := .tuple #[.slice q xs.length cq, .int .i64 (a : Int)]) (by simp [results, Tryz.results15, go_sem]) rfl ⟨⟨q, cq, by rw [HQ.out], by rw [HQ.out]; exact hfm⟩, HO2.out.below.tr hb3⟩
      | some ys =>
        have HTs : Hid (Calls Tryz.prog 27 #[.map (some w.heap.size), .agg #[.int .i64 f.c, .int .i64 f.r, .string f.s]] W1 fun e w' => e = .returned (.bool true) ∧ OI w l (a + k) ys w') := HTk.out.mono fun e w' h => by
          rcases h with ⟨zs, h1, h2, h3, h4⟩ | ⟨h1, -⟩
          · rw [htk] at h1
            obtain rfl := Option.some.inj h1
            obtain ⟨s1, s2⟩ := tk_srt htk HIx.out.srt
            refine ⟨h2, ⟨h4, h3, s1, s2, by rw [HN.out]; omega, ?_⟩⟩
            rw [HIx.out.eq, opE_step hent (hst.trans htk), List.drop_drop, hk]
            simp only [Prod.mk.injEq, true_and]
            omega
          · rw [htk] at h1; cases h1
        have hak : (a : Int) + (k : Int) ≤ 140737488355328 := by omega
        clear HTk HLi
        go_wp2_with (first | (go_at_call 27; refine HTs.out.mono ?_; rintro e w2 ⟨rfl, hOI⟩; have HO2 : Hid (OI w l (a + k) ys w2) := hOI; clear hOI))
        exact ⟨⟨a + k, ys, by simp, by omega, HO2.out⟩, by simp [intOf]; omega⟩
end Go.Proofs.YtokfijkhflfioaaGreatDoor.fw
namespace Go.Proofs.YtokfijkhflfioaaGreatDoor.ps
open Go.ChangeShapes Go.WideShapes Go.ChangeAt Go.RowKit
open adr (C isC)
section
variable {H : Type} {enc : TypeId × Value → H} {W : World} {base : Nat} {spare : Nat → Bool} {held : Bool}
set_option maxRecDepth 100000 in
theorem open_fills2 {r0 : Reach} {b0 : Nat} {v : Value} {d : DataW H} {q : List MemPlace} (hv : Value.okWide Tryz.prog W r0 b0 26 v) (h : DataW.Trod enc Tryz.prog W 0 spare held 26 v d q) :
    ∃ (p : Option Addr) (xs : List Fl) (cap : Nat), v = .slice p xs.length cap ∧ FM W p xs ∧ xs.length ≤ cap := by
  obtain ⟨p, len, cap, rfl⟩ := okWide_slice Tryz.underlying26 hv
  obtain ⟨fuel, hf⟩ := h
  rcases Go.Deep.open_slice Tryz.underlying26 hf with ⟨e, -⟩ | ⟨a, len', cap', m, n, D, Pl, e, -, hlc, hcm, hm, -, hel⟩
  · simp [Value.cells] at e
    obtain ⟨rfl, rfl, rfl⟩ := e
    exact ⟨none, [], 0, rfl, .inl rfl, Nat.le_refl _⟩
  simp [Value.cells] at e
  obtain ⟨rfl, rfl, rfl⟩ := e
  have hle : len ≤ m := by rw [hm]; split <;> omega
  rw [vcof33] at hel
  haveI : Inhabited Fl := ⟨⟨0, 0, nul⟩⟩
  obtain ⟨F, hF⟩ := Go.Deep.choose_lt (α := Fl) (n := len) (p := fun i y => W.cells? 0 (a.add (i * 3)) 3 = some (fl3 y)) (fun i hi => by
    obtain ⟨cs', g1, g2⟩ := hel i (by omega)
    obtain ⟨f, rfl⟩ := fl_trod g2
    exact ⟨f, g1⟩)
  have hlen : ((List.range len).map F).length = len := by simp
  refine ⟨some a, (List.range len).map F, cap, by rw [hlen], ?_, by rw [hlen]; exact hlc⟩
  by_cases h0 : len = 0
  · left; subst h0; rfl
  right
  have hc0 : ∀ i, i < len → ∀ j, j < 3 → W.cell? (a.add (i * 3 + j)) = (fl3 (F i))[j]? := fun i hi j hj => by
    have := (World.cells?_some (hF i hi)).2.2 j hj
    rw [Go.Deep.add_add] at this
    exact this
  have hsp : W.cell? a = some (.int .i64 (F 0).c) := by
    have := hc0 0 (by omega) 0 (by omega)
    simpa [Addr.add] using this
  have hspot := World.cell?_spot hsp
  obtain ⟨g, o, sp⟩ := a
  simp only at hspot
  subst hspot
  refine ⟨g, o, rfl, ?_, fun t u hu => ?_⟩
  · unfold World.cell? at hsp
    rcases Nat.lt_or_ge g W.heap.size with h | h
    · exact h
    · rw [Array.getElem?_eq_none h] at hsp
      simp at hsp
  · obtain ⟨i, j, x, rfl, hj, hx, hu'⟩ := flF_inv hu
    have hi : i < len := by have := (List.getElem?_eq_some_iff.1 hx).1; rw [hlen] at this; exact this
    have hxF : x = F i := by
      rw [List.getElem?_map, List.getElem?_range hi] at hx
      simpa using hx.symm
    subst hxF
    have := hc0 i hi j hj
    rw [add_plain, hu'] at this
    exact this
end
theorem told_good {xs : List Fl} (hs : Srt xs) (hl : xs.length ≤ 200) (hg : ∀ x ∈ xs, isC x.c x.r = true ∧ ckT x.s = 0) : Told xs 0 := by
  refine .inr ⟨hl, .inl ⟨rfl, fun i hi => ?_⟩⟩
  have hx : xs[i]? = some xs[i] := List.getElem?_eq_getElem hi
  obtain ⟨h1, h2⟩ := hg _ (List.getElem_mem hi)
  have ho : ordB xs i xs[i] = false := by
    unfold ordB
    cases i with
    | zero => rfl
    | succ k =>
      have hk : k < xs.length := by omega
      simp only
      rw [List.getElem?_eq_getElem hk]
      have := List.pairwise_iff_getElem.1 hs k (k + 1) hk hi (Nat.lt_succ_self _)
      simp only
      rw [this]
      rfl
  rw [cd_text hx h1 ho]
  exact h2
end Go.Proofs.YtokfijkhflfioaaGreatDoor.ps
namespace Go.Proofs.YtokfijkhflfioaaGreatDoor.fw
open Go Go.RowKit Go.Sort
/-- Bytes that lie somewhere, with their room. -/
def BC (w : World) (v : Value) (l : List UInt8) : Prop := BM w v l ∧ ∃ p c, v = .slice p l.length c ∧ l.length ≤ c
theorem BC.next {w w' : World} {v : Value} {l : List UInt8} (h : BC w v l) (hb : Bw w w') : BC w' v l := ⟨h.1.next hb, h.2⟩
theorem BV.bc {w : World} {v : Value} {xs : List UInt8} {wx : World} (h : BV w v xs wx) : BC wx v xs := by
  refine ⟨h.bm, ?_⟩
  obtain ⟨p, c, rfl, ⟨h0, rfl, rfl⟩ | ⟨g, rfl, hc⟩⟩ := h.form
  · exact ⟨none, 0, rfl, by omega⟩
  · exact ⟨_, c, rfl, hc⟩
theorem bc_open {w : World} {v : Value} {l : List UInt8} (h : BC w v l) (hl : l.length ≤ 140737488355328) (hE : ps.EnvP w) : Calls Tryz.prog 15 #[v] w fun e w' => OpO w l e w' := by
  obtain ⟨h1, p, c, rfl, hc⟩ := h
  exact open_any p c l w h1 hc hl hE
theorem bc_take {w : World} {p : Option Addr} {c : Nat} {l : List UInt8} (h : BC w (.slice p l.length c) l) (k : Nat) (hk : k ≤ l.length) : BC w (.slice p k c) (l.take k) := by
  obtain ⟨h1, p', c', e, hc⟩ := h
  cases e
  have hlk : (l.take k).length = k := by rw [List.length_take]; omega
  refine ⟨?_, p, c, by rw [hlk], by omega⟩
  obtain ⟨p2, c2, e, h2⟩ := h1
  cases e
  refine ⟨p, c, by rw [hlk], fun i x hx => ?_⟩
  rw [List.getElem?_take] at hx
  split at hx
  · exact h2 i x hx
  · cases hx
open Go.ChangeShapes Go.WideShapes Go.ChangeAt in
set_option maxRecDepth 100000 in
theorem open_bytes {H : Type} {enc : TypeId × Value → H} {W : World} {spare : Nat → Bool} {held : Bool} {r0 : Reach} {b0 : Nat} {v : Value} {d : DataW H} {q : List MemPlace} (hv : Value.okWide Tryz.prog W r0 b0 29 v) (h : DataW.Trod enc Tryz.prog W 0 spare held 29 v d q) :
    ∃ l : List UInt8, BC W v l ∧ (l = [] ∨ ∃ es fs, d = .slice es fs ∧ es.length = l.length) := by
  obtain ⟨p, len, cap, rfl⟩ := okWide_slice Tryz.underlying29 hv
  obtain ⟨fuel, hf⟩ := h
  rcases Go.Deep.open_slice1 Tryz.underlying29 (by kernel_rfl) hf with ⟨e, -⟩ | ⟨a, len', cap', m, n, V, D, Pl, e, -, hlc, hcm, hm, hx, hel⟩
  · simp [Value.cells] at e
    obtain ⟨rfl, rfl, rfl⟩ := e
    exact ⟨[], ⟨bm_nil W, none, 0, rfl, Nat.le_refl _⟩, .inl rfl⟩
  simp [Value.cells] at e
  obtain ⟨rfl, rfl, rfl⟩ := e
  have hle : len ≤ m := by rw [hm]; split <;> omega
  obtain ⟨F, hF⟩ := Go.Deep.choose_lt (α := UInt8) (n := len) (p := fun i y => W.cell? (a.add i) = some (.int .u8 (y.toNat : Int))) (fun i hi => by
    obtain ⟨g1, g2⟩ := hel i (by omega)
    obtain ⟨c, e, -, hw⟩ := DataW.trod_int Tryz.underlying5 g2
    have e2 : V i = .int .u8 c := by simpa using e
    have h1 : IntKind.u8.min = 0 := rfl
    have h2 : IntKind.u8.max = 255 := rfl
    have hr : 0 ≤ c ∧ c ≤ 255 := by simpa [Lit.wf, h1, h2] using hw
    refine ⟨UInt8.ofNat c.toNat, ?_⟩
    rw [g1, e2, UInt8.toNat_ofNat']
    congr 2
    omega)
  have hlen : ((List.range len).map F).length = len := by simp
  refine ⟨(List.range len).map F, ⟨?_, some a, cap, by rw [hlen], by rw [hlen]; exact hlc⟩, .inr ⟨_, _, (Prod.mk.inj hx).1, by simp⟩⟩
  refine ⟨some a, cap, by rw [hlen], fun i x hx => ?_⟩
  have hi : i < len := by have := (List.getElem?_eq_some_iff.1 hx).1; rw [hlen] at this; exact this
  have hxF : x = F i := by
    rw [List.getElem?_map, List.getElem?_range hi] at hx
    simpa using hx.symm
  subst hxF
  have h1 := hF i hi
  have h00 := hF 0 (by omega)
  have ha0 : a.add 0 = a := by simp [Addr.add]
  rw [ha0] at h00
  have hspot := World.cell?_spot h00
  obtain ⟨g, o, sp⟩ := a
  have hsp : sp = none := hspot
  subst hsp
  refine ⟨g, o, rfl, ?_⟩
  rw [ps.add_plain] at h1
  exact h1
theorem gd_is {x : ps.Fl} (h : Gd okT x) (hs : x.s.size ≠ 0) : adr.isC x.c x.r = true ∧ ps.ckT x.s = 0 := by
  obtain ⟨h1, h2, h3⟩ := h
  refine ⟨adr.isC_iff.2 ⟨h1, h2⟩, ?_⟩
  have := of_decide_eq_true h3
  unfold ftx at this
  rwa [if_neg hs] at this
theorem is_gd {x : ps.Fl} (h : adr.isC x.c x.r = true) (hs : x.s.size ≠ 0) (h2 : ps.ckT x.s = 0) : Gd okT x := by
  obtain ⟨h3, h4⟩ := adr.isC_iff.1 h
  refine ⟨h3, h4, decide_eq_true ?_⟩
  unfold ftx
  rw [if_neg hs]
  exact h2
/-- What is there of any bytes is a sheet. -/
theorem told_open (b : List UInt8) : ps.Told (opE [] b).1 0 := by
  obtain ⟨h1, h2, h3, h4, -⟩ := book_any okT b.length b
  exact ps.told_good h1 h4 fun x hx => gd_is (h3 x hx) (h2 x hx)
set_option maxRecDepth 1000000 in
set_option maxHeartbeats 4000000 in
theorem pack_any (v : Value) (l : List UInt8) (w : World) (h : BC w v l) (hl : l.length ≤ 140737488355328) (hE : ps.EnvP w) :
    Calls Tryz.prog 17 #[v] w fun e w' => ∃ u, e = .returned (.tuple #[u, .nilIface]) ∧ BC w' u (bkS (opE [] l).1) ∧ Bw w w' := by
  have HO : Hid (Calls Tryz.prog 15 #[v] w fun e w' => OpO w l e w') := bc_open h hl hE
  have HE : Hid (ps.EnvP w) := hE
  have HT : Hid (ps.Told (opE [] l).1 0) := told_open l
  clear h hE
  go_enter Tryz.func17, Tryz.ntmps17
  go_upto_region 2 with (first | (go_at_call 15; refine HO.out.mono ?_; rintro e w1 ⟨⟨q, cq, rfl, hfm⟩, hb1⟩))
  have HW : Hid (Calls Tryz.prog 13 #[.slice q (opE [] l).1.length cq] w1 fun e w' => ∃ u, e = .returned (.tuple #[u, .nilIface]) ∧ BC w' u (bkS (opE [] l).1) ∧ Bw w1 w') := (writeP_any q cq (opE [] l).1 w1 hfm (HE.out.below hb1 HE.out.size)).mono fun e w' ⟨t, h1, h2⟩ => by
    obtain rfl := HT.out.one h1
    rcases h2 with ⟨h3, -⟩ | ⟨-, u, rfl, hu⟩
    · exact absurd rfl h3
    · exact ⟨u, rfl, hu.bc, hu.below⟩
  have HB1 : Hid (Bw w w1) := hb1
  clear hfm hb1 HO HT
  go_wp2_with (first | (go_at_call 13; refine HW.out.mono ?_; rintro e w2 ⟨u, rfl, hu, hb2⟩))
  exact bodyPost_ret (v := .tuple #[u, .nilIface]) (by simp [results, Tryz.results17, go_sem]) rfl ⟨u, rfl, hu, HB1.out.tr hb2⟩
theorem eqF (c r : Int) (s : ByteArray) (m : Nat) (W : World) : (Op.equalIn (m + 4) 25 (.agg #[.int .i64 c, .int .i64 r, .string s]) (.agg #[.int .i64 c, .int .i64 r, .string s])).run Tryz.prog W = .ok true W := by
  have hS : Tryz.prog.underlying 25 = some (.struct (Tryz.prog.fieldsOf 25)) := by kernel_rfl
  have hp : Tryz.prog.stoodInHeld 25 = false := by kernel_rfl
  rw [run_equalIn_struct W (m + 3) 25 _ _ hS hp]
  simp only [Program.fieldsOf, Tryz.underlying25]
  simp [Op.eqFields, go_sem, ps.eqIn30]
theorem neqF (c r : Int) (s : ByteArray) (W : World) : (binOp BinOp.neq 25 (.agg #[.int .i64 c, .int .i64 r, .string s]) (.agg #[.int .i64 c, .int .i64 r, .string s])).run Tryz.prog W = .ok (.bool false) W := by
  rw [run_neq_struct, show (10000 : Nat) = 9996 + 4 from rfl, eqF]; rfl

set_option maxRecDepth 1000000 in
set_option maxHeartbeats 4000000 in
/-- sccsame.Sheets at a list of cells that lies in memory twice. -/
theorem rsheets_fm (X : List ps.Fl) (p p' : Option Addr) (c c' : Nat) (w : World) (hv : ps.FM w p X) (hv' : ps.FM w p' X) (hl : X.length ≤ 100000) :
    Calls Tryz.prog 16 #[.slice p X.length c, .slice p' X.length c'] w fun e w' => e = .returned (.bool true) ∧ Bw w w' := by
  have HV : Hid (ps.FM w p X) := hv
  have HV' : Hid (ps.FM w p' X) := hv'
  have hl9 : (X.length : Int) ≤ 100000 := by omega
  clear hv hl hv'
  go_enter Tryz.func16, Tryz.ntmps16
  go_upto_block 0 with fail
  go_cut [] (fun wx => Hid (Bw w wx))
  case first =>
    go_wp2_with fail
    go_loopw [5] (fun s5 wr => ∃ i : Nat, s5 = .int .i64 (i : Int) ∧ i ≤ X.length ∧ Hid (Bw w wr)) (fun s5 _ => X.length - (intOf s5).toNat)
    case atStart => exact ⟨0, rfl, Nat.zero_le _, Below.refl _ _⟩
    case round =>
      obtain ⟨i, rfl, hi, HR⟩ := hrel
      by_cases hlt : i < X.length
      · have hlt' : (i : Int) < (X.length : Int) := by omega
        have hi0 : (0 : Int) ≤ (i : Int) := by omega
        have hx : X[i]? = some X[i] := List.getElem?_eq_getElem hlt
        obtain ⟨x, ex⟩ : ∃ x, X[i] = x := ⟨_, rfl⟩
        rw [ex] at hx
        obtain ⟨gX, oX, rfl, -, q0, q1, q2⟩ := fm_at (fm_next HV.out HR.out) hx
        obtain ⟨gY, oY, rfl, -, r0, r1, r2⟩ := fm_at (fm_next HV'.out HR.out) hx
        have e30 := fun W => neqF x.c x.r x.s W
        clear hx ex
        obtain ⟨xc, xr, xs⟩ := x
        dsimp only at q0 q1 q2 r0 r1 r2 e30
        go_wp2_with fail
        go_cut [25] (fun s25 wx => s25 = .bool false ∧ wx = wr.drew)
        case first =>
          go_region
          all_goals
            go_wp2_with fail
            go_meet
            case rel => exact ⟨rfl, rfl⟩
        case rest =>
        obtain ⟨rfl, rfl⟩ := hcut
        apply_assumption
        clear q0 q1 q2 r0 r1 r2 e30
        have HR2 : Hid (Bw w wr.drew) := HR.out.drew
        go_wp2_with fail
        exact ⟨⟨i + 1, rfl, hlt, HR2⟩, by simp [intOf]; omega⟩
      · have hlt' : ¬ (i : Int) < (X.length : Int) := by omega
        go_wp2_with fail
        go_meet
        case rel => exact HR
  case rest =>
  have HC := hcut
  clear hcut
  apply_assumption
  go_wp2_with fail
  go_ret
  exact ⟨rfl, HC.out⟩
end Go.Proofs.YtokfijkhflfioaaGreatDoor.fw
