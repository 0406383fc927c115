
/- Package merge: the texts of all cells, sheet by sheet, as a map; plain, and by the laws of maps. Conditions: as each theorem says. -/
import Derived.Test.YtomgjjngkffbbaaGreatDoorMpg
import Derived.Test.YtomgjjngkffbbaaGreatDoorMga
import Derived.Test.YtomgjjngkffbbaaGreatDoorFwa
import Derived.DeepKeys4
namespace Go.Proofs.YtomgjjngkffbbaaGreatDoor.fw
open Go Go.RowKit Go.Sort Go.Maps
theorem mg_laid : laidOutB Tryz.prog = true := by kernel_rfl
theorem keyC : Keyed Tryz.prog 43 := Keyed.of_law (Go.deep_law_laid mg_laid (m := 5) (by decide) (of_decide_eq_true (by kernel_rfl)) (by kernel_rfl) (by kernel_rfl))
/-- A row of the table: a cell, and its texts. -/
structure Tr where
  c : Int
  r : Int
  s0 : ByteArray
  s1 : ByteArray
  s2 : ByteArray
abbrev kvT (x : Tr) : Value := .agg #[.int .i64 x.c, .int .i64 x.r]
abbrev vvT (x : Tr) : Value := .agg #[.string x.s0, .string x.s1, .string x.s2]
noncomputable def klT (x : Tr) : Lit := (keyOf Tryz.prog 43 (kvT x)).getD (.bool false)
theorem ccof2 : Tryz.prog.cellsOf 43 = 2 := by kernel_rfl
theorem ccofi : Tryz.prog.cellsOf 3 = 1 := by kernel_rfl
theorem cktype : Tryz.prog.keyType 43 = true := by kernel_rfl
set_option maxRecDepth 100000 in
theorem ckey_some (c r : Int) (hc : (Lit.int .i64 c).wf = true) (hr : (Lit.int .i64 r).wf = true) : ∃ l, keyOf Tryz.prog 43 (.agg #[.int .i64 c, .int .i64 r]) = some l := by
  have hsz : Tryz.prog.types.size + 1 = 294 + 1 + 1 := by kernel_rfl
  have hi : ∀ n : Int, (Lit.int .i64 n).wf = true → Tryz.prog.keyLits (294 + 1) 3 [.int .i64 n] = some [.int .i64 n] := fun n hn => by
    unfold Program.keyLits
    simp only [Tryz.underlying3]
    rw [if_pos ⟨trivial, hn⟩]
  unfold keyOf
  simp only [Tryz.underlying43, cktype, Value.formed, ccof2, Bool.true_and]
  rw [hsz]
  unfold Program.keyLits
  simp only [Tryz.underlying43, ccof2, Value.cells]
  simp [hi c hc, hi r hr, ccofi]
theorem klT_of {x : Tr} (hc : (Lit.int .i64 x.c).wf = true) (hr : (Lit.int .i64 x.r).wf = true) : keyOf Tryz.prog 43 (kvT x) = some (klT x) := by
  obtain ⟨l, hl⟩ := ckey_some x.c x.r hc hr
  unfold klT
  rw [hl]
  rfl
theorem kvT_iff {x y : Tr} : kvT x = kvT y ↔ x.c = y.c ∧ x.r = y.r := by
  constructor
  · intro h
    have := Value.agg.inj h
    simp at this
    exact this
  · rintro ⟨h1, h2⟩
    unfold kvT
    rw [h1, h2]
theorem wf_kc {n : Int} (h : 0 ≤ n ∧ n < 256) : (Lit.int .i64 n).wf = true := by
  have h1 : IntKind.i64.min = -9223372036854775808 := rfl
  have h2 : IntKind.i64.max = 9223372036854775807 := rfl
  simp [Lit.wf, h1, h2]
  omega
abbrev MT (w : World) (b : Nat) (xs : List Tr) : Prop := mpg.MG Tryz.prog 43 kvT vvT klT w b xs
theorem under_table : Tryz.prog.underlying 57 = some (.map 43 63) := by kernel_rfl
theorem zeroT (w : World) : (zeroValue 63).run Tryz.prog w = .ok (.agg #[.string nul, .string nul, .string nul]) w := by kernel_rfl
def nuls : Value := .agg #[.string nul, .string nul, .string nul]
set_option maxRecDepth 100000 in
/-- What is read under a key that is there. -/
theorem lkT_at {es : List (Lit × DataW Value)} {xs : List Tr} (h : mpg.Lk Tryz.prog 43 kvT vvT klT es xs) (hd : ∀ x ∈ xs, ∀ y ∈ xs, x.c = y.c → x.r = y.r → x = y) {x : Tr} (hx : x ∈ xs) (zd : DataW Value) : (DataW.map es).atKey (klT x) zd = .held (vvT x) := by
  unfold DataW.atKey
  dsimp only
  have hm : (klT x, (DataW.held (vvT x) : DataW Value)) ∈ es := h.mem.2 ⟨x, hx, rfl⟩
  cases hf : es.find? (fun p => p.1.sameKey (klT x)) with
  | none =>
    have := List.find?_eq_none.1 hf _ hm
    exact absurd (WideAt.sameKey_self (keyC.key (h.keyed x hx))) this
  | some p =>
    obtain ⟨y, hy, rfl⟩ := h.mem.1 (List.mem_of_find?_eq_some hf)
    have hs := List.find?_some hf
    have he := (mpg.key_eq keyC (h.keyed y hy) (h.keyed x hx)).1 hs
    obtain ⟨e1, e2⟩ := kvT_iff.1 he
    rw [hd y hy x hx e1 e2]
set_option maxRecDepth 100000 in
theorem lkT_no {es : List (Lit × DataW Value)} {xs : List Tr} (h : mpg.Lk Tryz.prog 43 kvT vvT klT es xs) {x : Tr} (hk : keyOf Tryz.prog 43 (kvT x) = some (klT x)) (hx : ∀ y ∈ xs, ¬ (y.c = x.c ∧ y.r = x.r)) (zd : DataW Value) : (DataW.map es).atKey (klT x) zd = zd := by
  unfold DataW.atKey
  dsimp only
  cases hf : es.find? (fun p => p.1.sameKey (klT x)) with
  | none => rfl
  | some p =>
    obtain ⟨y, hy, rfl⟩ := h.mem.1 (List.mem_of_find?_eq_some hf)
    have hs := List.find?_some hf
    have he := (mpg.key_eq keyC (h.keyed y hy) hk).1 hs
    exact absurd (kvT_iff.1 he) (hx y hy)
def Tr.set (x : Tr) (i : Nat) (s : ByteArray) : Tr := if i = 0 then { x with s0 := s } else if i = 1 then { x with s1 := s } else { x with s2 := s }
theorem Tr.set_c (x : Tr) (i : Nat) (s : ByteArray) : (x.set i s).c = x.c := by unfold Tr.set; split <;> (try split) <;> rfl
theorem Tr.set_r (x : Tr) (i : Nat) (s : ByteArray) : (x.set i s).r = x.r := by unfold Tr.set; split <;> (try split) <;> rfl
theorem Tr.set_vv (x : Tr) {i : Nat} (hi : i < 3) (s : ByteArray) : (#[.string x.s0, .string x.s1, .string x.s2] : Array Value).set! i (.string s) = #[.string (x.set i s).s0, .string (x.set i s).s1, .string (x.set i s).s2] := by
  have : i = 0 ∨ i = 1 ∨ i = 2 := by omega
  rcases this with rfl | rfl | rfl <;> rfl
/-- The row of a cell, or an empty one. -/
def Tr.of (xs : List Tr) (c r : Int) : Tr := (xs.find? fun x => decide (x.c = c) && decide (x.r = r)).getD ⟨c, r, nul, nul, nul⟩
theorem Tr.of_cr (xs : List Tr) (c r : Int) : (Tr.of xs c r).c = c ∧ (Tr.of xs c r).r = r := by
  unfold Tr.of
  cases hf : xs.find? fun x => decide (x.c = c) && decide (x.r = r) with
  | none => exact ⟨rfl, rfl⟩
  | some x =>
    have := List.find?_some hf
    simpa using this
theorem Tr.of_mem {xs : List Tr} (hd : ∀ x ∈ xs, ∀ y ∈ xs, x.c = y.c → x.r = y.r → x = y) {x : Tr} (hx : x ∈ xs) : Tr.of xs x.c x.r = x := by
  unfold Tr.of
  cases hf : xs.find? fun y => decide (y.c = x.c) && decide (y.r = x.r) with
  | none =>
    have := List.find?_eq_none.1 hf x hx
    simp at this
  | some y =>
    have h1 := List.find?_some hf
    have h2 := List.mem_of_find?_eq_some hf
    simp at h1
    exact hd y h2 x hx h1.1 h1.2
theorem Tr.of_no {xs : List Tr} {c r : Int} (h : ∀ y ∈ xs, ¬ (y.c = c ∧ y.r = r)) : Tr.of xs c r = ⟨c, r, nul, nul, nul⟩ := by
  unfold Tr.of
  rw [List.find?_eq_none.2 fun y hy => by simpa using h y hy]
  rfl
/-- What is read under any key. -/
theorem lkT_of {es : List (Lit × DataW Value)} {xs : List Tr} (h : mpg.Lk Tryz.prog 43 kvT vvT klT es xs) (hd : ∀ x ∈ xs, ∀ y ∈ xs, x.c = y.c → x.r = y.r → x = y) {x : Tr} (hk : keyOf Tryz.prog 43 (kvT x) = some (klT x)) : (DataW.map es).atKey (klT x) (.held nuls) = .held (vvT (Tr.of xs x.c x.r)) := by
  by_cases hx : ∃ y ∈ xs, y.c = x.c ∧ y.r = x.r
  · obtain ⟨y, hy, e1, e2⟩ := hx
    have hkl : klT x = klT y := by unfold klT; rw [kvT_iff.2 ⟨e1, e2⟩]
    rw [hkl, lkT_at h hd hy, ← e1, ← e2, Tr.of_mem hd hy]
  · have hx' : ∀ y ∈ xs, ¬ (y.c = x.c ∧ y.r = x.r) := fun y hy e => hx ⟨y, hy, e⟩
    rw [lkT_no h hk hx', Tr.of_no hx']
    rfl
/-- The table of some sheets, as far as they were laid: sheet j so far is A j. -/
structure TB (xs : List Tr) (A : Nat → List ps.Fl) : Prop where
  one : ∀ x ∈ xs, ∀ y ∈ xs, x.c = y.c → x.r = y.r → x = y
  nd : xs.Nodup
  txt : ∀ x ∈ xs, x.s0 = ps.txt (A 0) x.c x.r ∧ x.s1 = ps.txt (A 1) x.c x.r ∧ x.s2 = ps.txt (A 2) x.c x.r
  has : ∀ j, j < 3 → ∀ f ∈ A j, ∃ x ∈ xs, x.c = f.c ∧ x.r = f.r
  grid : ∀ x ∈ xs, (1 ≤ x.c ∧ x.c ≤ 26) ∧ 1 ≤ x.r ∧ x.r ≤ 99
theorem TB.nil : TB [] fun _ => [] := ⟨fun _ h => absurd h List.not_mem_nil, List.nodup_nil, fun _ h => absurd h List.not_mem_nil, fun _ _ _ h => absurd h List.not_mem_nil, fun _ h => absurd h List.not_mem_nil⟩
/-- A cell that has no row has no text in any of the sheets. -/
theorem TB.no {xs : List Tr} {A : Nat → List ps.Fl} (h : TB xs A) {c r : Int} (hn : ∀ x ∈ xs, ¬ (x.c = c ∧ x.r = r)) {j : Nat} (hj : j < 3) : ps.txt (A j) c r = nul := ps.txt_none fun f hf => by
  rw [ps.at_no]
  rintro ⟨rfl, rfl⟩
  obtain ⟨x, hx, e⟩ := h.has j hj f hf
  exact hn x hx e
theorem TB.of {xs : List Tr} {A : Nat → List ps.Fl} (h : TB xs A) (c r : Int) : (Tr.of xs c r).s0 = ps.txt (A 0) c r ∧ (Tr.of xs c r).s1 = ps.txt (A 1) c r ∧ (Tr.of xs c r).s2 = ps.txt (A 2) c r := by
  by_cases hx : ∃ y ∈ xs, y.c = c ∧ y.r = r
  · obtain ⟨y, hy, rfl, rfl⟩ := hx
    rw [Tr.of_mem h.one hy]
    exact h.txt y hy
  · have hx' : ∀ y ∈ xs, ¬ (y.c = c ∧ y.r = r) := fun y hy e => hx ⟨y, hy, e⟩
    rw [Tr.of_no hx', h.no hx' (by decide), h.no hx' (by decide), h.no hx' (by decide)]
    exact ⟨rfl, rfl, rfl⟩
theorem txt_snoc {l : List ps.Fl} {f : ps.Fl} (h : ∀ x ∈ l, ¬ (x.c = f.c ∧ x.r = f.r)) (c r : Int) : ps.txt (l ++ [f]) c r = if f.c = c ∧ f.r = r then f.s else ps.txt l c r := by
  induction l with
  | nil =>
    rw [List.nil_append, ps.txt_cons, ps.txt_nil]
    by_cases e : ps.at' f c r = true
    · rw [if_pos e, if_pos (ps.at_iff.1 e)]
    · rw [if_neg e, if_neg fun e2 => e (ps.at_iff.2 e2)]
  | cons x l ih =>
    rw [List.cons_append, ps.txt_cons, ps.txt_cons, ih fun y hy => h y (by simp [hy])]
    by_cases e : ps.at' x c r = true
    · rw [if_pos e, if_pos e, if_neg]
      rintro ⟨rfl, rfl⟩
      exact h x (by simp) (ps.at_iff.1 e)
    · rw [if_neg e, if_neg e]
open Classical in
/-- The table with one text more. -/
noncomputable def putT (xs : List Tr) (i : Nat) (f : ps.Fl) : List Tr := ((Tr.of xs f.c f.r).set i f.s) :: xs.filter fun x => decide (kvT x ≠ kvT ((Tr.of xs f.c f.r).set i f.s))
theorem Tr.set_of_c (xs : List Tr) (i : Nat) (f : ps.Fl) : ((Tr.of xs f.c f.r).set i f.s).c = f.c ∧ ((Tr.of xs f.c f.r).set i f.s).r = f.r := by
  rw [Tr.set_c, Tr.set_r]
  exact Tr.of_cr xs f.c f.r
open Classical in
theorem putT_mem {xs : List Tr} {i : Nat} {f : ps.Fl} {x : Tr} : x ∈ putT xs i f ↔ x = (Tr.of xs f.c f.r).set i f.s ∨ (x ∈ xs ∧ ¬ (x.c = f.c ∧ x.r = f.r)) := by
  unfold putT
  rw [List.mem_cons, List.mem_filter, decide_eq_true_eq]
  have := Tr.set_of_c xs i f
  rw [ne_eq, kvT_iff, this.1, this.2]
theorem TB.put {xs : List Tr} {A : Nat → List ps.Fl} (h : TB xs A) {i : Nat} (hi : i < 3) {f : ps.Fl} (hf : ∀ x ∈ A i, ¬ (x.c = f.c ∧ x.r = f.r)) (hg : (1 ≤ f.c ∧ f.c ≤ 26) ∧ 1 ≤ f.r ∧ f.r ≤ 99) : TB (putT xs i f) fun j => if j = i then A i ++ [f] else A j := by
  have hcr := Tr.set_of_c xs i f
  refine ⟨fun x hx y hy e1 e2 => ?_, ?_, fun x hx => ?_, fun j hj g hg2 => ?_, fun x hx => ?_⟩
  · rcases putT_mem.1 hx with rfl | ⟨hx, nx⟩
    · rcases putT_mem.1 hy with rfl | ⟨hy, ny⟩
      · rfl
      · exact absurd ⟨e1.symm.trans hcr.1, e2.symm.trans hcr.2⟩ ny
    · rcases putT_mem.1 hy with rfl | ⟨hy, ny⟩
      · exact absurd ⟨e1.trans hcr.1, e2.trans hcr.2⟩ nx
      · exact h.one x hx y hy e1 e2
  · unfold putT
    refine List.nodup_cons.2 ⟨fun hm => ?_, h.nd.filter _⟩
    have := (List.mem_filter.1 hm).2
    simp at this
  · have hset : ∀ c r, f.c = c → f.r = r → ((Tr.of xs f.c f.r).set i f.s).s0 = ps.txt (if 0 = i then A i ++ [f] else A 0) c r ∧ ((Tr.of xs f.c f.r).set i f.s).s1 = ps.txt (if 1 = i then A i ++ [f] else A 1) c r ∧ ((Tr.of xs f.c f.r).set i f.s).s2 = ps.txt (if 2 = i then A i ++ [f] else A 2) c r := by
      rintro c r rfl rfl
      obtain ⟨o0, o1, o2⟩ := h.of f.c f.r
      have hs := txt_snoc hf f.c f.r
      rw [if_pos ⟨rfl, rfl⟩] at hs
      have : i = 0 ∨ i = 1 ∨ i = 2 := by omega
      rcases this with rfl | rfl | rfl
      · exact ⟨hs.symm, o1, o2⟩
      · exact ⟨o0, hs.symm, o2⟩
      · exact ⟨o0, o1, hs.symm⟩
    rcases putT_mem.1 hx with rfl | ⟨hx, nx⟩
    · exact hset _ _ hcr.1.symm hcr.2.symm
    · obtain ⟨o0, o1, o2⟩ := h.txt x hx
      have hs := txt_snoc hf x.c x.r
      rw [if_neg fun e => nx ⟨e.1.symm, e.2.symm⟩] at hs
      have : i = 0 ∨ i = 1 ∨ i = 2 := by omega
      rcases this with rfl | rfl | rfl
      · exact ⟨o0.trans hs.symm, o1, o2⟩
      · exact ⟨o0, o1.trans hs.symm, o2⟩
      · exact ⟨o0, o1, o2.trans hs.symm⟩
  · by_cases e : f.c = g.c ∧ f.r = g.r
    · exact ⟨_, putT_mem.2 (.inl rfl), hcr.1.trans e.1, hcr.2.trans e.2⟩
    · have hg3 : g ∈ A j := by
        split at hg2
        · rename_i e2
          subst e2
          rcases List.mem_append.1 hg2 with h2 | h2
          · exact h2
          · obtain rfl := List.mem_singleton.1 h2
            exact absurd ⟨rfl, rfl⟩ e
        · exact hg2
      obtain ⟨x, hx, e1, e2⟩ := h.has j hj g hg3
      exact ⟨x, putT_mem.2 (.inr ⟨hx, fun e3 => e ⟨e3.1.symm.trans e1, e3.2.symm.trans e2⟩⟩), e1, e2⟩
  · rcases putT_mem.1 hx with rfl | ⟨hx, -⟩
    · rw [hcr.1, hcr.2]
      exact hg
    · exact h.grid x hx
/-- A table's rows as they stand. -/
def ltT (x y : Tr) : Prop := x.r < y.r ∨ (x.r = y.r ∧ x.c < y.c)
theorem TB.sorted {xs : List Tr} {A : Nat → List ps.Fl} (h : TB xs A) : ∃ ys : List Tr, xs.Perm ys ∧ ys.Pairwise ltT := by
  have hp : (xs.mergeSort fun x y => decide (x.r < y.r ∨ (x.r = y.r ∧ x.c ≤ y.c))).Perm xs := List.mergeSort_perm _ _
  have hs := List.pairwise_mergeSort (le := fun x y : Tr => decide (x.r < y.r ∨ (x.r = y.r ∧ x.c ≤ y.c))) (fun a b c h1 h2 => by simp at h1 h2 ⊢; omega) (fun a b => by simp; omega) xs
  refine ⟨_, hp.symm, ?_⟩
  have hn : (xs.mergeSort fun x y => decide (x.r < y.r ∨ (x.r = y.r ∧ x.c ≤ y.c))).Nodup := hp.nodup_iff.2 h.nd
  generalize xs.mergeSort (fun x y => decide (x.r < y.r ∨ (x.r = y.r ∧ x.c ≤ y.c))) = ys at *
  refine (List.pairwise_and_iff.2 ⟨hs, hn⟩).imp_of_mem fun {x y} hx hy ⟨h1, h2⟩ => ?_
  have h3 := of_decide_eq_true h1
  unfold ltT
  by_cases e : x.c = y.c ∧ x.r = y.r
  · exact absurd (h.one x (hp.mem_iff.1 hx) y (hp.mem_iff.1 hy) e.1 e.2) h2
  · omega
end Go.Proofs.YtomgjjngkffbbaaGreatDoor.fw
