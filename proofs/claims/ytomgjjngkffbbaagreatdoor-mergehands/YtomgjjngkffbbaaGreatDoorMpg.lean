
/- A map of the call's own that reads as a list of things, each under its key: looked up, counted, written, deleted from, ranged over. No program is walked here. Conditions: as each theorem says. -/
import Derived.Maps.OwnIn
import Derived.Sort.MapsRangeIn
namespace Go.Proofs.YtomgjjngkffbbaaGreatDoor.mpg
open Go Go.Maps
open Go.ChangeMaps (notKey putKey delKey)
/-- Any value, as it lies. -/
def anyR (v : Value) : Option (DataW Value × List MemPlace) := some (.held v, [])
section
variable {P : Program} {k : TypeId} {α : Type} {key val : α → Value} {kl : α → Lit}
def prs (val : α → Value) (kl : α → Lit) (xs : List α) : List (Lit × DataW Value) := xs.map fun x => (kl x, .held (val x))
/-- Entries and things, in any order. -/
structure Lk (P : Program) (k : TypeId) (key val : α → Value) (kl : α → Lit) (es : List (Lit × DataW Value)) (xs : List α) : Prop where
  perm : es.Perm (prs val kl xs)
  keyed : ∀ x ∈ xs, keyOf P k (key x) = some (kl x)
/-- Block b is a map that has all of xs. -/
def MG (P : Program) (k : TypeId) (key val : α → Value) (kl : α → Lit) (w : World) (b : Nat) (xs : List α) : Prop := ∃ es, w.ownsMap P k anyR b xs.length (.map es) ∧ Lk P k key val kl es xs
theorem Lk.len {es : List (Lit × DataW Value)} {xs : List α} (h : Lk P k key val kl es xs) : Maps.size (.map es) = xs.length := by
  show es.length = _
  rw [h.perm.length_eq]
  simp [prs]
theorem tight {w : World} {b n m : Nat} {es : List (Lit × DataW Value)} {R : Value → Option (DataW Value × List MemPlace)} (h : w.ownsMap P k R b n (.map es)) (hm : es.length ≤ m) : w.ownsMap P k R b m (.map es) := by
  obtain ⟨a, clock, h1, h2, h3, h4⟩ := h
  have e : es = (a.toList.map (Go.WideElems.rg P k R)).foldr DataW.insert [] := by cases h4; rfl
  refine ⟨a, clock, h1, h2, ?_, h4⟩
  have := length_sorted (a.toList.map (Go.WideElems.rg P k R))
  rw [← e] at this
  simp at this
  omega
theorem MG.lt {w : World} {b : Nat} {xs : List α} (h : MG P k key val kl w b xs) : b < w.heap.size := by
  obtain ⟨es, h1, -⟩ := h
  exact h1.lt
theorem MG.kept {w w' : World} {row : Option Nat} {b : Nat} {xs : List α} (h : MG P k key val kl w b xs) (hg : w.grownBy w' row) (hne : some b ≠ row) : MG P k key val kl w' b xs := by
  obtain ⟨es, h1, h2⟩ := h
  exact ⟨es, h1.kept hg hne, h2⟩
theorem MG.at {w w' : World} {b : Nat} {xs : List α} (h : MG P k key val kl w b xs) (hb : w'.heap[b]? = w.heap[b]?) : MG P k key val kl w' b xs := by
  obtain ⟨es, ⟨a, clock, h1, h2⟩, h3⟩ := h
  exact ⟨es, ⟨a, clock, hb.trans h1, h2⟩, h3⟩
theorem MG.nil (w : World) : MG P k key val kl (w.alloc (.map #[] 0)) w.heap.size [] :=
  ⟨[], World.ownsMap_made w P k anyR, ⟨List.Perm.refl _, fun _ hx => absurd hx List.not_mem_nil⟩⟩
theorem Lk.mem {es : List (Lit × DataW Value)} {xs : List α} (h : Lk P k key val kl es xs) {p : Lit × DataW Value} : p ∈ es ↔ ∃ x ∈ xs, p = (kl x, .held (val x)) := by
  rw [h.perm.mem_iff]
  unfold prs
  rw [List.mem_map]
  constructor
  · rintro ⟨x, hx, rfl⟩; exact ⟨x, hx, rfl⟩
  · rintro ⟨x, hx, rfl⟩; exact ⟨x, hx, rfl⟩
theorem key_eq (K : Keyed P k) {u v : Value} {a b : Lit} (hu : keyOf P k u = some a) (hv : keyOf P k v = some b) : a.sameKey b = true ↔ u = v := by
  constructor
  · intro h
    have := WideAt.sameKey_eq h
    subst this
    exact K.inj hu hv
  · rintro rfl
    rw [hu] at hv
    cases hv
    exact WideAt.sameKey_self (K.key hu)
theorem Lk.has {es : List (Lit × DataW Value)} {xs : List α} (h : Lk P k key val kl es xs) (K : Keyed P k) {v : Value} {l : Lit} (hl : keyOf P k v = some l) : Maps.has (.map es) l = true ↔ ∃ x ∈ xs, key x = v := by
  rw [has_eq, List.any_eq_true]
  constructor
  · rintro ⟨p, hp, hs⟩
    obtain ⟨x, hx, rfl⟩ := h.mem.1 hp
    exact ⟨x, hx, (key_eq K (h.keyed x hx) hl).1 hs⟩
  · rintro ⟨x, hx, e⟩
    exact ⟨(kl x, .held (val x)), h.mem.2 ⟨x, hx, rfl⟩, (key_eq K (h.keyed x hx) hl).2 e⟩
open Classical in
theorem Lk.filt {es : List (Lit × DataW Value)} {xs : List α} (h : Lk P k key val kl es xs) (K : Keyed P k) {v : Value} {l : Lit} (hl : keyOf P k v = some l) :
    (es.filter (notKey l)).Perm (prs val kl (xs.filter fun x => decide (key x ≠ v))) := by
  refine (h.perm.filter _).trans ?_
  have hk := h.keyed
  clear h
  unfold prs
  rw [List.filter_map]
  have : ∀ x ∈ xs, ((notKey l) ∘ fun x => (kl x, (DataW.held (val x) : DataW Value))) x = decide (key x ≠ v) := fun x hx => by
    show (!(kl x).sameKey l) = _
    have := key_eq K (hk x hx) hl
    cases hs : (kl x).sameKey l
    · have : ¬ key x = v := fun e => by rw [this.2 e] at hs; cases hs
      simp [this]
    · have : key x = v := this.1 hs
      simp [this]
  rw [List.filter_congr this]
theorem insert_perm (x : Lit × DataW Value) : ∀ l : List (Lit × DataW Value), (DataW.insert x l).Perm (x :: l)
  | [] => List.Perm.refl _
  | y :: r => by
    unfold DataW.insert
    split
    · exact List.Perm.refl _
    · exact (List.Perm.cons y (insert_perm x r)).trans (List.Perm.swap x y r)
open Classical in
/-- m[key] = val. -/
theorem MG.put {w' : World} {b n : Nat} {xs ys : List α} {es : List (Lit × DataW Value)} (h : Lk P k key val kl es xs) (K : Keyed P k) {f : α} (hf : keyOf P k (key f) = some (kl f))
    (ho : w'.ownsMap P k anyR b n ((DataW.map es).put (kl f) (.held (val f)))) (hp : ys.Perm (f :: xs.filter fun x => decide (key x ≠ key f))) : MG P k key val kl w' b ys := by
  rw [DataW.put_eq] at ho
  have hq : (putKey (kl f) (.held (val f)) es).Perm (prs val kl ys) := by
    unfold putKey
    refine (insert_perm _ _).trans ?_
    refine (List.Perm.cons _ (h.filt K hf)).trans ?_
    exact (hp.map fun x => (kl x, (DataW.held (val x) : DataW Value))).symm
  refine ⟨_, tight ho (by rw [hq.length_eq]; simp [prs]), hq, fun x hx => ?_⟩
  rcases List.mem_cons.1 (hp.mem_iff.1 hx) with rfl | hx
  · exact hf
  · exact h.keyed x (List.mem_filter.1 hx).1
open Classical in
/-- delete(m, key). -/
theorem MG.del {w' : World} {b n : Nat} {xs ys : List α} {es : List (Lit × DataW Value)} (h : Lk P k key val kl es xs) (K : Keyed P k) {v : Value} {l : Lit} (hl : keyOf P k v = some l)
    (ho : w'.ownsMap P k anyR b n ((DataW.map es).del l)) (hp : ys.Perm (xs.filter fun x => decide (key x ≠ v))) : MG P k key val kl w' b ys := by
  rw [DataW.del_eq] at ho
  have hq : (delKey l es).Perm (prs val kl ys) := (h.filt K hl).trans (hp.map fun x => (kl x, (DataW.held (val x) : DataW Value))).symm
  refine ⟨_, tight ho (by rw [hq.length_eq]; simp [prs]), hq, fun x hx => ?_⟩
  exact h.keyed x (List.mem_filter.1 (hp.mem_iff.1 hx)).1
/-- What a walk over it has met, and what not. -/
structure Met (kl : α → Lit) (xs ps : List α) (left : Lit → Bool) : Prop where
  rest : ∃ rs, (ps ++ rs).Perm xs ∧ ∀ y ∈ xs, left (kl y) = true ↔ y ∈ rs
theorem Lk.apart {w : World} {b n : Nat} {es : List (Lit × DataW Value)} {xs : List α} (h : Lk P k key val kl es xs) (ho : w.ownsMap P k anyR b n (.map es)) (K : Keyed P k) : (xs.map kl).Nodup := by
  obtain ⟨es', e1, h2, h3⟩ := ho.entries K
  cases e1
  have : (es.map (·.1)).Nodup := List.pairwise_map.2 h2
  have hp := h.perm.map (·.1)
  have e : (prs val kl xs).map (·.1) = xs.map kl := by unfold prs; rw [List.map_map]; rfl
  rw [e] at hp
  exact hp.nodup_iff.1 this
theorem Met.start {es : List (Lit × DataW Value)} {xs : List α} (h : Lk P k key val kl es xs) (K : Keyed P k) : Met kl xs [] (Maps.has (.map es)) :=
  ⟨xs, List.Perm.refl _, fun y hy => ⟨fun _ => hy, fun _ => (h.has K (h.keyed y hy)).2 ⟨y, hy, rfl⟩⟩⟩
theorem Met.step {es : List (Lit × DataW Value)} {xs ps : List α} {left : Lit → Bool} (hM : Met kl xs ps left) (h : Lk P k key val kl es xs) (hd : (xs.map kl).Nodup) (K : Keyed P k) {l : Lit} {c : Value} {y : DataW Value × List MemPlace}
    (hl : left l = true) (hv : anyR c = some y) (hat : ∀ zd, (DataW.map es).atKey l zd = y.1) : ∃ z ∈ xs, val z = c ∧ kl z = l ∧ Met kl xs (ps ++ [z]) (fun q => left q && !q.sameKey l) := by
  obtain ⟨rs, hp, hr⟩ := hM.rest
  have hy : y.1 = .held c := by unfold anyR at hv; cases hv; rfl
  have h0 := hat .nil
  rw [hy] at h0
  unfold DataW.atKey at h0
  dsimp only at h0
  cases hfd : es.find? (fun p => p.1.sameKey l) with
  | none => rw [hfd] at h0; cases h0
  | some p =>
    rw [hfd] at h0
    have hs : p.1.sameKey l = true := by have := List.find?_some hfd; simpa using this
    obtain ⟨z, hz, rfl⟩ := h.mem.1 (List.mem_of_find?_eq_some hfd)
    have e1 : kl z = l := WideAt.sameKey_eq hs
    subst e1
    have e2 : val z = c := by cases h0; rfl
    refine ⟨z, hz, e2, rfl, ?_⟩
    obtain ⟨a, b, rfl⟩ := List.append_of_mem ((hr z hz).1 hl)
    have hp2 : (ps ++ [z] ++ (a ++ b)).Perm xs := by
      refine List.Perm.trans ?_ hp
      rw [List.append_assoc]
      refine List.Perm.append_left _ ?_
      show (z :: (a ++ b)).Perm _
      exact List.perm_middle.symm
    refine ⟨a ++ b, hp2, fun y hy => ?_⟩
    have hn : (((ps ++ [z] ++ (a ++ b))).map kl).Nodup := (hp2.map kl).nodup_iff.2 hd
    rw [Bool.and_eq_true, hr y hy]
    have hkz := h.keyed z hz
    have hky := h.keyed y hy
    constructor
    · rintro ⟨h1, h2⟩
      have hne : y ≠ z := by
        rintro rfl
        rw [WideAt.sameKey_self (K.key hky)] at h2
        cases h2
      rcases List.mem_append.1 h1 with h1 | h1
      · exact List.mem_append.2 (.inl h1)
      · rcases List.mem_cons.1 h1 with h1 | h1
        · exact absurd h1 hne
        · exact List.mem_append.2 (.inr h1)
    · intro h1
      refine ⟨?_, ?_⟩
      · rcases List.mem_append.1 h1 with h1 | h1
        · exact List.mem_append.2 (.inl h1)
        · exact List.mem_append.2 (.inr (List.mem_cons_of_mem _ h1))
      · cases hs2 : (kl y).sameKey (kl z) with
        | false => rfl
        | true =>
          exfalso
          have e3 := WideAt.sameKey_eq hs2
          rw [List.map_append, List.nodup_append] at hn
          exact hn.2.2 (kl z) (List.mem_map_of_mem (by simp)) (kl y) (List.mem_map_of_mem h1) e3.symm
theorem Met.all {xs ps : List α} {left : Lit → Bool} (hM : Met kl xs ps left) (h0 : ∀ l, left l = false) : ps.Perm xs := by
  obtain ⟨rs, hp, hr⟩ := hM.rest
  have : rs = [] := List.eq_nil_iff_forall_not_mem.2 fun y hy => by
    have := (hr y (hp.mem_iff.1 (List.mem_append.2 (.inr hy)))).2 hy
    rw [h0] at this
    cases this
  subst this
  rwa [List.append_nil] at hp
end
end Go.Proofs.YtomgjjngkffbbaaGreatDoor.mpg
