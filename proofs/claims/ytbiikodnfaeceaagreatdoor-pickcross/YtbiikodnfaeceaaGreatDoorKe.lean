
/- Package pick: Group. Conditions: as each theorem says. -/
import Derived.Test.YtbiikodnfaeceaaGreatDoorGd
import Derived.Test.YtbiikodnfaeceaaGreatDoorUe

/- Groups: rows that are alike, one behind the other; a list of groups that grows. Nothing is walked here. Conditions: as each theorem says. -/
namespace Go.Proofs.YtbiikodnfaeceaaGreatDoor.so
open Go.RowKit Go.Sort Go.Shelf
/-- An order, cut where a row is not like the first of those ahead. -/
inductive Pt (al : Nat → Nat → Bool) : List Nat → List (List Nat) → Prop
  | nil : Pt al [] []
  | step (z : Nat) (h t : List Nat) (ps : List (List Nat)) (h1 : ∀ y ∈ h, al y z = true) (h2 : ∀ y t', t = y :: t' → al y z = false) (h3 : Pt al t ps) : Pt al ((z :: h) ++ t) ((z :: h) :: ps)
/-- A group: where its key lies, and its rows. -/
structure Gp where
  p : Option Addr
  cap : Nat
  pt : List Nat
/-- The sum of a column in some rows. -/
def gsum (T : Tb) (k : Nat) (pt : List Nat) : Vl := sumV (pt.map fun i => T.v i k) []
def g5 (T : Tb) (n k : Nat) (g : Gp) : List Value := [.slice g.p n g.cap, .int .i64 (g.pt.length : Nat), .int .i64 (gsum T k g.pt).k, .int .i64 (gsum T k g.pt).n, .string (gsum T k g.pt).s]
def grps (T : Tb) (n k : Nat) (l : List Gp) : List Value := l.flatMap (g5 T n k)
theorem grps_app (T : Tb) (n k : Nat) (l m : List Gp) : grps T n k (l ++ m) = grps T n k l ++ grps T n k m := by unfold grps; rw [List.flatMap_append]
theorem grps_at {T : Tb} {n k : Nat} {l : List Gp} {i : Nat} {x : Gp} (h : l[i]? = some x) (j : Nat) (hj : j < 5) : (grps T n k l)[i * 5 + j]? = (g5 T n k x)[j]? := by
  induction l generalizing i with
  | nil => simp at h
  | cons y l ih =>
    have e : grps T n k (y :: l) = g5 T n k y ++ grps T n k l := by unfold grps; rw [List.flatMap_cons]
    rw [e]
    have hl : (g5 T n k y).length = 5 := rfl
    cases i with
    | zero =>
      have e2 : y = x := by simpa using h
      subst e2
      rw [List.getElem?_append_left (by rw [hl]; omega), Nat.zero_mul, Nat.zero_add]
    | succ i =>
      have h' : l[i]? = some x := by simpa using h
      rw [List.getElem?_append_right (by rw [hl]; omega), hl, show (i + 1) * 5 + j - 5 = i * 5 + j by omega]
      exact ih h'
/-- A group's key lies apart from the list. -/
def KA (v : Value) (n : Nat) (p : Option Addr) (wx : World) : Prop := n = 0 ∨ ∃ b, p = some ⟨b, 0, none⟩ ∧ b < wx.heap.size ∧ v.ownBlock ≠ some b
/-- A group's key. -/
def gkey (T : Tb) (c : Nat → Int) (g : Gp) (i : Nat) : Vl := T.v (g.pt.headD 0) (c i).toNat
/-- A list of groups of one's own, and all that stood stands. -/
structure GS (T : Tb) (n : Nat) (c : Nat → Int) (k : Nat) (w : World) (v : Value) (gs : List Gp) (wx : World) : Prop where
  own : wx.ownsRow w.heap.size 38 5 v gs.length (grps T n k gs)
  below : Bw w wx
  keys : ∀ g ∈ gs, VM wx g.p n (gkey T c g) ∧ KA v n g.p wx
theorem GS.nil (T : Tb) (n : Nat) (c : Nat → Int) (k : Nat) (w : World) : GS T n c k w (.slice none 0 0) [] w := ⟨⟨rfl, .inl ⟨rfl, rfl⟩⟩, Below.refl _ _, fun _ hg => absurd hg List.not_mem_nil⟩
theorem KA.next {v : Value} {n : Nat} {p : Option Addr} {wx wy : World} (h : KA v n p wx) (hb : Bw wx wy) : KA v n p wy := by
  rcases h with h | ⟨b, h1, h2, h3⟩
  · exact .inl h
  · exact .inr ⟨b, h1, Nat.lt_of_lt_of_le h2 hb.size, h3⟩
theorem GS.next {T : Tb} {n : Nat} {c : Nat → Int} {k : Nat} {w : World} {v : Value} {gs : List Gp} {wx wy : World} (h : GS T n c k w v gs wx) (hb : Bw wx wy) : GS T n c k w v gs wy :=
  ⟨own_next h.own hb, h.below.tr hb, fun g hg => ⟨(h.keys g hg).1.next hb, (h.keys g hg).2.next hb⟩⟩
theorem VM.blk {wx w' : World} {p : Option Addr} {n : Nat} {r : Nat → Vl} (h : VM wx p n r) (hk : n = 0 ∨ ∃ b, p = some ⟨b, 0, none⟩ ∧ b < w'.heap.size ∧ w'.heap[b]? = wx.heap[b]?) : VM w' p n r := by
  rcases hk with h0 | ⟨b, rfl, h1, h2⟩
  · exact .inl h0
  · rcases h with h0 | ⟨g, o, e, hg, h3⟩
    · exact .inl h0
    · obtain ⟨rfl, rfl⟩ : b = g ∧ 0 = o := by
        injection e with e; injection e with e1 e2; exact ⟨e1, e2⟩
      refine .inr ⟨b, 0, rfl, h1, fun i hi => ?_⟩
      have := h3 i hi
      simp only [World.cell?, h2] at this ⊢
      exact this
theorem infoG : (Tryz.prog.info? 38).map (fun i => (i.zero, i.size, i.bytes)) = some (some (.agg #[.slice none 0 0, .int .i64 0, .int .i64 0, .int .i64 0, .string nul]), 5, 64) := by kernel_rfl
theorem GS.one {T : Tb} {n : Nat} {c : Nat → Int} {k : Nat} {w : World} {v : Value} {gs : List Gp} {wx : World} (h : GS T n c k w v gs wx) (hl : gs.length < 1000000) (y : Gp) (hy : VM wx y.p n (gkey T c y)) (hk : KA v n y.p wx) :
    ∃ g cc w', (Builtin.append_ #[26, 26] 26 #[v, .slice (some ⟨wx.heap.size, 0, none⟩) 1 1]).run Tryz.prog (wx.alloc (.cells #[.slice y.p n y.cap, .int .i64 (y.pt.length : Nat), .int .i64 (gsum T k y.pt).k, .int .i64 (gsum T k y.pt).n, .string (gsum T k y.pt).s] 38)) = .ok (.slice (some ⟨g, 0, none⟩) (gs.length + 1) cc) w' ∧ GS T n c k w (.slice (some ⟨g, 0, none⟩) (gs.length + 1) cc) (gs ++ [y]) w' := by
  obtain ⟨i0, hi, hz0, hz1, hz2⟩ := info_parts infoG
  have hmax : maxLen = 9223372036854775807 := rfl
  have h1 := h.next (Bw.al wx (.cells #[.slice y.p n y.cap, .int .i64 (y.pt.length : Nat), .int .i64 (gsum T k y.pt).k, .int .i64 (gsum T k y.pt).n, .string (gsum T k y.pt).s] 38))
  obtain ⟨g, cc, w', r1, r2, r3, r4, r5⟩ := run_append_lies (P := Tryz.prog) (w := wx.alloc (.cells #[.slice y.p n y.cap, .int .i64 (y.pt.length : Nat), .int .i64 (gsum T k y.pt).k, .int .i64 (gsum T k y.pt).n, .string (gsum T k y.pt).s] 38)) 26 26 w.heap.size 38 i0 (.agg #[.slice none 0 0, .int .i64 0, .int .i64 0, .int .i64 0, .string nul]) 5 64 Tryz.underlying26 hi hz0 hz1 hz2 rfl (by decide) v gs.length (grps T n k gs) h1.own ⟨wx.heap.size, 0, none⟩ 1 1 (g5 T n k y) rfl (World.news_of_block (heap_alloc_new wx _)) (by simp [Value.oneCell', g5]) (by decide) (by omega) (by omega) h1.below.size _ rfl
  have hsz : wx.heap.size < w'.heap.size := by have := r3.size; simp at this; omega
  have key : ∀ p, KA v n p wx → ∀ r, VM wx p n r → VM w' p n r ∧ KA (.slice (some ⟨g, 0, none⟩) (gs.length + 1) cc) n p w' := fun p hp r hr => by
    rcases hp with h0 | ⟨b, rfl, hb, hne⟩
    · exact ⟨.inl h0, .inl h0⟩
    · refine ⟨hr.blk (.inr ⟨b, rfl, by omega, ?_⟩), .inr ⟨b, rfl, by omega, ?_⟩⟩
      · rw [r3.block b (by simp; omega) (fun e => hne e.symm)]
        exact Below.heap_alloc _ _ _ hb
      · intro e
        have eg : g = b := by simpa [Value.ownBlock] using e
        rcases r4 with r4 | r4
        · exact hne (by rw [r4, eg])
        · simp at r4; omega
  refine ⟨g, cc, w', r1, ⟨?_, h1.below.grown r3 h1.below.size (fun q hq => (h1.own.lt q hq).1), fun x hx => ?_⟩⟩
  · have e : grps T n k (gs ++ [y]) = grps T n k gs ++ g5 T n k y := by rw [grps_app]; simp [grps]
    rw [e, List.length_append]
    exact r2
  · rcases List.mem_append.1 hx with hx | hx
    · exact key _ (h.keys x hx).2 _ (h.keys x hx).1
    · rw [List.mem_singleton] at hx
      subst hx
      exact key _ hk _ hy
/-- The capacity of a list of numbers. -/
theorem IV.im2 {w : World} {v : Value} {xs : List Int} {wx : World} (h : IV w v xs wx) : ∃ p c, v = .slice p xs.length c ∧ xs.length ≤ c ∧ IM wx p xs.length (fun i => xs.getD i 0) := by
  obtain ⟨p, c, rfl, him⟩ := h.im
  refine ⟨p, c, rfl, ?_, him⟩
  rcases h.own.2 with ⟨e, h0⟩ | ⟨g, cap, cur, e, -, -, hc, -⟩
  · omega
  · injection e with e1 e2 e3
    subst e3
    exact hc
end Go.Proofs.YtbiikodnfaeceaaGreatDoor.so
namespace Go.Proofs.YtbiikodnfaeceaaGreatDoor.so
open Go.RowKit Go.Sort Go.Shelf
/-- What is wrong with a table, columns, and a column that is added up. -/
def GF (T : Tb) (n : Nat) (c : Nat → Int) (x : Int) (e : Int) : Prop := (e ≠ 0 ∧ CF T n c e) ∨ (CF T n c 0 ∧ ((e = 1 ∧ ¬ colOk T x) ∨ (e = 0 ∧ colOk T x)))
theorem GF.one {T : Tb} {n : Nat} {c : Nat → Int} {x e e' : Int} (h : GF T n c x e) (h' : GF T n c x e') : e = e' := by
  rcases h with ⟨a, b⟩ | ⟨b, h⟩ <;> rcases h' with ⟨a', b'⟩ | ⟨b', h'⟩
  · exact b.one b'
  · exact absurd (b.one b') a
  · exact absurd (b'.one b) a'
  · rcases h with ⟨a, h⟩ | ⟨a, h⟩ <;> rcases h' with ⟨a', h'⟩ | ⟨a', h'⟩
    all_goals first
      | omega
      | exact absurd h h'
      | exact absurd h' h
theorem GF.zero {T : Tb} {n : Nat} {c : Nat → Int} {x : Int} (h : GF T n c x 0) : Snd T ∧ n ≤ 12 ∧ (∀ i, i < n → colOk T (c i)) ∧ colOk T x := by
  rcases h with ⟨a, b⟩ | ⟨b, ⟨a, h⟩ | ⟨a, h⟩⟩
  · exact absurd rfl a
  · omega
  · exact ⟨b.zero.1, b.zero.2.1, b.zero.2.2, h⟩
/-- Are two rows alike? -/
def alT (T : Tb) (n : Nat) (c : Nat → Int) (i j : Nat) : Bool := alk (T.v i) (T.v j) n c
/-- What Group answers. -/
def GO (T : Tb) (n : Nat) (c : Nat → Int) (x : Int) (w : World) (e : Ending) (w' : World) : Prop :=
  (∃ er v, e = .returned (.tuple #[v, errV er]) ∧ GF T n c x er ∧ (er ≠ 0 → v = .slice none 0 0) ∧ (er = 0 → ∃ W Z gs, Bw w W ∧ StN T n c (fun _ => false) Z ∧ Pt (alT T n c) Z (gs.map Gp.pt) ∧ GS T n c x.toNat W v gs w')) ∧ Bw w w'
/-- How long a slice is. -/
def lenOf : Value → Nat
  | .slice _ n _ => n
  | _ => 0
theorem map_getD (T : Tb) (k : Nat) (R : List Nat) (x : Nat) (hx : x ≤ R.length) : colL T k (fun i => R.getD i 0) x = (R.take x).map fun i => T.v i k := by
  unfold colL
  apply List.ext_getElem?
  intro i
  by_cases hi : i < x
  · rw [List.getElem?_map, List.getElem?_range hi, List.getElem?_map, List.getElem?_take, if_pos hi, List.getElem?_eq_getElem (by omega)]
    simp only [Option.map_some, List.getD_eq_getElem?_getD]
    rw [List.getElem?_eq_getElem (by omega)]
    rfl
  · rw [List.getElem?_eq_none (by simp; omega), List.getElem?_eq_none (by simp; omega)]
theorem part_step {al : Nat → Nat → Bool} {R : List Nat} {x : Nat} (h1 : 1 ≤ x) (hx : x ≤ R.length) (hal : ∀ j, j < x → al (R.getD j 0) (R.getD 0 0) = true) (hne : x < R.length → al (R.getD x 0) (R.getD 0 0) = false) {ps : List (List Nat)} (h : Pt al (R.drop x) ps) : Pt al R (R.take x :: ps) := by
  cases R with
  | nil => simp at hx; omega
  | cons z R =>
    obtain ⟨y, rfl⟩ : ∃ y, x = y + 1 := ⟨x - 1, by omega⟩
    have e : (z :: R) = (z :: R.take y) ++ R.drop y := by rw [List.cons_append, List.take_append_drop]
    have e2 : (z :: R).take (y + 1) = z :: R.take y := rfl
    have e3 : (z :: R).drop (y + 1) = R.drop y := rfl
    rw [e2, e]
    rw [e3] at h
    refine .step z (R.take y) (R.drop y) ps (fun v hv => ?_) (fun v t' ht => ?_) h
    · obtain ⟨i, hi, hv'⟩ := List.mem_iff_getElem.1 hv
      have hi' : i < y := by simp at hi; omega
      have := hal (i + 1) (by omega)
      simp only [List.getD_cons_succ, List.getD_cons_zero] at this
      rw [List.getElem_take] at hv'
      rw [List.getD_eq_getElem?_getD, List.getElem?_eq_getElem (by simp at hi; omega), Option.getD_some, hv'] at this
      exact this
    · have hl : y < R.length := by
        have : (R.drop y).length = t'.length + 1 := by rw [ht]; rfl
        rw [List.length_drop] at this
        omega
      have := hne (by simp; omega)
      simp only [List.getD_cons_succ, List.getD_cons_zero] at this
      have hv : R[y]? = some v := by
        have h0 : (R.drop y)[0]? = some v := by rw [ht]; rfl
        rw [List.getElem?_drop] at h0
        simpa using h0
      rw [List.getD_eq_getElem?_getD, hv] at this
      exact this
theorem head_take {R : List Nat} {x : Nat} (h1 : 1 ≤ x) : (R.take x).headD 0 = R.getD 0 0 := by
  obtain ⟨y, rfl⟩ : ∃ y, x = y + 1 := ⟨x - 1, by omega⟩
  cases R <;> rfl
theorem IM.cutAt {w : World} {g o m x : Nat} {R : List Nat} (h : IM w (some ⟨g, o, none⟩) m (fun i => ((R.getD i 0 : Nat) : Int))) (hx : x ≤ m) {c : Nat} (hc : m ≤ c) {PP : Option Addr} (hP : (if c = x then some (⟨g, o, none⟩ : Addr) else some ⟨g, o + x, none⟩) = PP) : IM w PP (m - x) (fun i => (((R.drop x).getD i 0 : Nat) : Int)) := by
  by_cases h0 : m - x = 0
  · exact .inl h0
  · rcases h with h | ⟨g', o', e, hg, h3⟩
    · omega
    · obtain ⟨rfl, rfl⟩ : g = g' ∧ o = o' := by
        injection e with e; injection e with e1 e2; exact ⟨e1, e2⟩
      rw [if_neg (by omega)] at hP
      refine .inr ⟨g, o + x, hP.symm, hg, fun i hi => ?_⟩
      have := h3 (x + i) (by omega)
      simp only [List.getD_eq_getElem?_getD, List.getElem?_drop] at this ⊢
      rw [Nat.add_assoc]
      exact this
theorem IM.few {w : World} {p : Option Addr} {m x : Nat} {f : Nat → Int} (h : IM w p m f) (hx : x ≤ m) : IM w p x f := by
  rcases h with h | ⟨g, o, h1, h2, h3⟩
  · left; omega
  · exact .inr ⟨g, o, h1, h2, fun i hi => h3 i (by omega)⟩
theorem GS.form {T : Tb} {n : Nat} {c : Nat → Int} {k : Nat} {w : World} {v : Value} {gs : List Gp} {wx : World} (h : GS T n c k w v gs wx) : ∃ p cc, v = .slice p gs.length cc := by
  rcases h.own.2 with ⟨rfl, h0⟩ | ⟨g, cap, cur, rfl, -⟩
  · exact ⟨none, 0, by rw [h0]⟩
  · exact ⟨_, _, rfl⟩
set_option maxRecDepth 100000 in
set_option maxHeartbeats 16000000 in
theorem group_any (T : Tb) (p : Option Addr) (cp : Nat) (p2 : Option Addr) (n c2 : Nat) (c : Nat → Int) (x : Int) (w : World) (hT : TM w p T) (hI : IM w p2 n c) (hq : T.q ≤ 9223372036854775807) (hn : n ≤ 4398046511104) (hL : ∀ i, i < T.q → T.L i ≤ 9223372036854775807) (h64 : ∀ i, i < T.q → ∀ j, j < T.L i → B64 (T.v i j).n) :
    Calls Tryz.prog 8 #[.slice p T.q cp, .slice p2 n c2, .int .i64 x] w fun e w' => GO T n c x w e w' := by
  have HRI := rising_any p2 n c2 c w hI hn
  have HSO : Hid (∀ v wx, KV w v (colsL c n) wx → ∃ pv cv, v = .slice pv n cv ∧ Calls Tryz.prog 18 #[.slice p T.q cp, .slice pv n cv] wx fun e w' => SO T n c (fun _ => false) wx e w') := fun v wx hv => by
    obtain ⟨pv, cv, rfl, hkm⟩ := hv.km
    rw [colsL_len] at hkm ⊢
    refine ⟨pv, cv, rfl, ?_⟩
    have hkm' : KM wx pv n c (fun _ => false) := by
      rcases hkm with h | ⟨g, o, h1, h2, h3⟩
      · exact .inl h
      · refine .inr ⟨g, o, h1, h2, fun i hi => ?_⟩
        have := h3 i hi
        dsimp only at this
        rw [colsL_at hi] at this
        exact this
    exact sort_any T p cp pv n cv c _ wx (hT.next hv.below) hkm' hq (by omega) hL
  have HHC : Hid (Snd T → ∀ wx, Bw w wx → Calls Tryz.prog 20 #[.slice p T.q cp, .int .i64 x] wx fun e w' => e = .returned (.bool (hasC T x)) ∧ w' = wx) := fun hs wx hb => hasColumn_any T p cp x wx (hT.next hb) hs.few hs.thin
  have HT : Hid (TM w p T) := hT
  have HI : Hid (IM w p2 n c) := hI
  have H64 : Hid (∀ i, i < T.q → ∀ j, j < T.L i → B64 (T.v i j).n) := h64
  clear hT hI hL h64
  obtain ⟨q, eq⟩ : ∃ q, T.q = q := ⟨_, rfl⟩
  have HEQ : Hid (T.q = q) := eq
  rw [eq] at HSO HHC hq H64 ⊢
  clear eq
  go_enter Tryz.func8, Tryz.ntmps8
  go_wp2_with fail
  refine HRI.mono ?_
  clear HRI
  rintro e w1 ⟨v, rfl, hv⟩
  have HBA : Hid (Bw w w1) := hv.below
  obtain ⟨pv, cv, rfl, hso⟩ := HSO.out v w1 hv
  clear hv HSO
  go_wp2_with fail
  refine hso.mono ?_
  clear hso
  rintro e w2 ⟨⟨er, vo, rfl, hcf, hno, hyes⟩, hb2⟩
  have HCF : Hid (CF T n c er) := hcf
  have HYES : Hid (er = 0 → ∃ W Z, Bw w1 W ∧ StN T n c (fun _ => false) Z ∧ IV W vo (natI Z) w2) := hyes
  have HB2 : Hid (Bw w w2) := HBA.out.tr hb2
  have HB12 : Hid (Bw w1 w2) := hb2
  clear hcf hyes hb2 hno
  by_cases he0 : er = 0
  · subst he0
    rw [errV_0]
    obtain ⟨hS, hn12, hcol⟩ := HCF.out.zero
    have HS : Hid (Snd T) := hS
    have HCO : Hid (∀ i, i < n → colOk T (c i)) := hcol
    have hq60 : q ≤ 60 := by rw [← HEQ.out]; exact hS.few
    obtain ⟨W, Z, hbW, hSt, hIV⟩ := HYES.out rfl
    have HST : Hid (StN T n c (fun _ => false) Z) := hSt
    obtain ⟨po, co, rfl, hco, him⟩ := hIV.im2
    have hlenZ : (natI Z).length = Z.length := by simp
    rw [hlenZ] at hco him ⊢
    have HIM : Hid (IM w2 po Z.length (fun i => ((Z.getD i 0 : Nat) : Int))) := by
      rcases him with h | ⟨g, o, h1, h2, h3⟩
      · exact .inl h
      · refine .inr ⟨g, o, h1, h2, fun i hi => ?_⟩
        have := h3 i hi
        simp only [List.getD_eq_getElem?_getD, List.getElem?_map, List.getElem?_eq_getElem hi, Option.map_some, Option.getD_some] at this ⊢
        exact this
    have hZq : Z.length = q := by rw [← HEQ.out, hSt.1.length_eq]; simp
    have HZM : Hid (∀ i ∈ Z, i < q) := fun i hi => by rw [← HEQ.out]; exact List.mem_range.1 (hSt.1.mem_iff.1 hi)
    have HHW := HHC.out hS w2 HB2.out
    clear hS hcol hSt him hIV hlenZ hbW HYES HHC HB12
    cases hcx : hasC T x with
    | false =>
      have HX : Hid (¬ colOk T x) := hasC_false.1 hcx
      rw [hcx] at HHW
      clear hcx
      go_wp2_with fail
      refine HHW.mono ?_
      rintro e w3 ⟨rfl, rfl⟩
      clear HHW
      go_wp2_with fail
      refine bodyPost_ret (v := .tuple #[.slice none 0 0, .iface 55 (.int .i64 1)]) (by simp [results, Tryz.results8, go_sem]) rfl ?_
      exact ⟨⟨1, _, by rw [errV_of (by decide)], .inr ⟨HCF.out, .inl ⟨rfl, HX.out⟩⟩, fun _ => rfl, fun h => absurd h (by decide)⟩, HB2.out⟩
    | true =>
      have HX : Hid (colOk T x) := hasC_true.1 hcx
      rw [hcx] at HHW
      clear hcx
      obtain ⟨k, rfl⟩ : ∃ k : Nat, x = (k : Int) := ⟨x.toNat, by have := HX.out.1; omega⟩
      have hk12 : k < 12 := by
        have h1 := HX.out.2
        unfold wid at h1
        split at h1
        · omega
        · next h => have := HS.out.thin 0 (by omega); omega
      have HKL : Hid (∀ i, i < q → k < T.L i) := fun i hi => by
        have := (HS.out.col HX.out (by rw [HEQ.out]; exact hi)).2.2.1
        simpa using this
      go_wp2_with fail
      refine HHW.mono ?_
      rintro e w3 ⟨rfl, ew⟩
      rw [ew]
      clear HHW ew w3
      go_wp2_with fail
      go_loopw [8, 10] (fun v8 v10 wr => ∃ (R : List Nat) (p8 : Option Addr) (c8 : Nat) (gs : List Gp), v8 = .slice p8 R.length c8 ∧ R.length ≤ c8 ∧ gs.length + R.length ≤ 60 ∧ Hid (IM w2 p8 R.length (fun i => ((R.getD i 0 : Nat) : Int))) ∧ Hid (∀ i ∈ R, i < q) ∧ Hid (∀ ps, Pt (alT T n c) R ps → Pt (alT T n c) Z (gs.map Gp.pt ++ ps)) ∧ Hid (GS T n c k w2 v10 gs wr)) (fun v8 _ _ => lenOf v8)
      case atStart => exact ⟨Z, po, co, [], by rw [hZq], hco, by simp; omega, HIM, HZM, fun ps h => h, GS.nil T n c k w2⟩
      case round =>
        obtain ⟨R, p8, c8, gs, rfl, hRc, hR60, HRM, HRQ, HPT, HGS⟩ := hrel
        clear HIM HZM
        by_cases h0 : R.length = 0
        · have hR0 : R = [] := List.length_eq_zero_iff.1 h0
          subst hR0
          have HPZ : Hid (Pt (alT T n c) Z (gs.map Gp.pt)) := by
            have := HPT.out [] .nil
            rwa [List.append_nil] at this
          clear HPT
          go_wp2_with fail
          refine bodyPost_ret (v := .tuple #[u10, .nilIface]) (by simp [results, Tryz.results8, go_sem]) rfl ?_
          exact ⟨⟨0, _, rfl, .inr ⟨HCF.out, .inr ⟨rfl, HX.out⟩⟩, fun h => absurd rfl h, fun _ => ⟨w2, Z, gs, HB2.out, HST.out, HPZ.out, HGS.out⟩⟩, HB2.out.tr HGS.out.below⟩
        · have hzr : ∀ i, i < R.length → R.getD i 0 < q := fun i hi => by
            refine HRQ.out _ ?_
            rw [List.getD_eq_getElem?_getD, List.getElem?_eq_getElem hi, Option.getD_some]
            exact List.getElem_mem hi
          have HZR : Hid (∀ i, i < R.length → R.getD i 0 < q) := hzr
          have HHM := howMany_any T p cp p8 R.length c8 (fun i => R.getD i 0) p2 n c2 c wr HS.out hn12 (by omega) (by omega) (fun i hi => by rw [HEQ.out]; exact hzr i hi) (HT.out.next (HB2.out.tr HGS.out.below)) (HRM.out.next HGS.out.below) (HI.out.next (HB2.out.tr HGS.out.below)) HCO.out
          rw [HEQ.out] at HHM
          clear hzr
          obtain ⟨m, hm⟩ : ∃ m, R.length = m := ⟨_, rfl⟩
          have HM : Hid (R.length = m) := hm
          rw [hm] at HHM hRc hR60 h0 HRM HZR ⊢
          clear hm
          have hm0 : (m : Int) > 0 := by omega
          go_wp2_with fail
          refine HHM.mono ?_
          clear HHM
          rintro e w4 ⟨⟨xx, rfl, hx1, hxm, hal, hne⟩, hb4⟩
          have HAL : Hid ((∀ j, j < xx → alk (T.v (R.getD j 0)) (T.v (R.getD 0 0)) n c = true) ∧ (xx < m → alk (T.v (R.getD xx 0)) (T.v (R.getD 0 0)) n c = false)) := ⟨hal, hne⟩
          have HGS4 : Hid (GS T n c k w2 u10 gs w4) := HGS.out.next hb4
          clear hal hne hb4 HGS
          rcases HRM.out.next HGS4.out.below with h | ⟨g, o, rfl, hg, h3⟩
          · omega
          have y0 := h3 0 (by omega)
          dsimp only at y0
          rw [Nat.add_zero] at y0
          clear h3 hg
          have hB4 : Bw w w4 := HB2.out.tr HGS4.out.below
          rcases HT.out.next hB4 with h | ⟨g1, o1, rfl, hg1, h1⟩
          · have := HZR.out 0 (by omega); have := HEQ.out; omega
          obtain ⟨y1, hvm⟩ := h1 (R.getD 0 0) (by rw [HEQ.out]; exact HZR.out 0 (by omega))
          clear h1 hg1
          have htq := HZR.out 0 (by omega)
          have HSUM : Hid (∀ wx, Bw w4 wx → Calls Tryz.prog 23 #[.slice (some ⟨g1, o1, none⟩) q cp, .slice (some ⟨g, o, none⟩) xx c8, .int .i64 (k : Int)] wx fun e w' => e = .returned (V (gsum T k (R.take xx)).k (gsum T k (R.take xx)).n (gsum T k (R.take xx)).s) ∧ Bw wx w') := fun wx hb => by
            have := sumOf_any T (some ⟨g1, o1, none⟩) cp (some ⟨g, o, none⟩) xx c8 (fun i => R.getD i 0) k wx (HT.out.next (hB4.tr hb)) ((HRM.out.next (HGS4.out.below.tr hb)).few hxm) (by omega) (by rw [HEQ.out]; exact hq60) (fun i hi => ⟨by rw [HEQ.out]; exact HZR.out i (by omega), HKL.out _ (HZR.out i (by omega))⟩) hk12 (fun i hi => H64.out _ (HZR.out i (by omega)) _ (HKL.out _ (HZR.out i (by omega))))
            rw [HEQ.out, map_getD T k R xx (by rw [HM.out]; exact hxm)] at this
            exact this
          have HHT : Hid ((R.take xx).headD 0 = R.getD 0 0) := head_take hx1
          have HLT : Hid ((R.take xx).length = xx) := by show _ = _; rw [List.length_take, HM.out]; omega
          obtain ⟨t, ht⟩ : ∃ t, R.getD 0 0 = t := ⟨_, rfl⟩
          rw [ht] at y0 y1 hvm htq HAL HHT
          have HTT : Hid (R.getD 0 0 = t) := ht
          clear ht
          have HVI := valuesIn_at (T.P t) (T.L t) (T.C t) (T.v t) p2 n c2 c w4 hvm (HI.out.next hB4) hn12 (fun i hi => by
            have := HS.out.col (HCO.out i hi) (by rw [HEQ.out]; exact htq)
            exact ⟨this.1, this.2.1⟩)
          clear hvm hB4
          generalize T.P t = pt at *
          generalize T.L t = lt at *
          generalize T.C t = ct at *
          have htq' : (t : Int) < (q : Int) := by omega
          have ht0 : (0 : Int) ≤ (t : Int) := by omega
          have hxc : (xx : Int) ≤ (c8 : Int) := by omega
          have hx0 : (0 : Int) ≤ (xx : Int) := by omega
          have hx1' : (0 : Int) < (xx : Int) := by omega
          have hxm' : (xx : Int) ≤ (m : Int) := by omega
          go_wp2_with fail
          refine HVI.mono ?_
          clear HVI y0 y1
          rintro e w5 ⟨pk, ck, rfl, hvk, hat, hb5⟩
          have HK5 : Hid (VM w5 pk n (fun i => T.v t (c i).toNat) ∧ At w4.heap.size w5.heap.size n pk ∧ Bw w4 w5) := ⟨hvk, hat, hb5⟩
          have HSU := HSUM.out w5 hb5
          clear hvk hat hb5 HSUM
          obtain ⟨r, hr⟩ : ∃ r, gsum T k (R.take xx) = r := ⟨_, rfl⟩
          have HGR : Hid (gsum T k (R.take xx) = r) := hr
          rw [hr] at HSU
          clear hr
          obtain ⟨rk, rn, rs⟩ := r
          dsimp only at HSU
          go_wp2_with fail
          refine HSU.mono ?_
          clear HSU
          rintro e w6 ⟨rfl, hb6⟩
          have hb46 : Bw w4 w6 := HK5.out.2.2.tr hb6
          have HGS6 : Hid (GS T n c k w2 u10 gs w6) := HGS4.out.next hb46
          have hkv : VM w6 pk n (gkey T c ⟨pk, ck, R.take xx⟩) := by
            have e : gkey T c ⟨pk, ck, R.take xx⟩ = fun i => T.v t (c i).toNat := by funext i; unfold gkey; rw [HHT.out]
            rw [e]
            exact HK5.out.1.next hb6
          have hka : KA u10 n pk w6 := by
            rcases HK5.out.2.1 with h | ⟨b, h1, h2, h3⟩
            · exact .inl h
            · refine .inr ⟨b, h1, Nat.lt_of_lt_of_le h3 hb6.size, fun e => ?_⟩
              have := (HGS4.out.own.lt b e).2
              omega
          obtain ⟨gg, cc, w7, hr, hG7⟩ := HGS6.out.one (by omega) ⟨pk, ck, R.take xx⟩ hkv hka
          dsimp only at hr
          rw [HLT.out, HGR.out] at hr
          obtain ⟨pg, cg, rfl⟩ := HGS6.out.form
          have HG7 : Hid (GS T n c k w2 (.slice (some ⟨gg, 0, none⟩) (gs.length + 1) cc) (gs ++ [⟨pk, ck, R.take xx⟩]) w7) := hG7
          obtain ⟨gl, hgl⟩ : ∃ gl, gs.length = gl := ⟨_, rfl⟩
          have HGL : Hid (gs.length = gl) := hgl
          rw [hgl] at hr hR60 HG7 ⊢
          have HR : Hid ((Builtin.append_ #[26, 26] 26 #[.slice pg gl cg, .slice (some ⟨w6.heap.size, 0, none⟩) 1 1]).run Tryz.prog (w6.alloc (.cells #[.slice pk n ck, .int .i64 ((xx : Nat) : Int), .int .i64 rk, .int .i64 rn, .string rs] 38)) = .ok (.slice (some ⟨gg, 0, none⟩) (gl + 1) cc) w7) := hr
          obtain ⟨PP, hPP⟩ : ∃ PP, (if c8 = xx then some (⟨g, o, none⟩ : Addr) else some ⟨g, o + xx, none⟩) = PP := ⟨_, rfl⟩
          have HPP : Hid ((if c8 = xx then some (⟨g, o, none⟩ : Addr) else some ⟨g, o + xx, none⟩) = PP) := hPP
          clear hG7 hr hgl hkv hka HGS6 hb46 hb6 HK5 HGS4
          go_wp2_with (first | (at_builtin; refine wpList_append_eq rfl _ _ 26 rfl _ _ _ _ rfl rfl HR.out ?_))
          have hdl : (R.drop xx).length = m - xx := by rw [List.length_drop, HM.out]
          refine ⟨⟨R.drop xx, PP, c8 - xx, gs ++ [⟨pk, ck, R.take xx⟩], by rw [hdl], by rw [hdl]; omega, by rw [hdl, List.length_append, HGL.out]; simp; omega, ?_, fun i hi => HRQ.out i (List.mem_of_mem_drop hi), fun ps hp => ?_, HG7⟩, by show m - xx < m; omega⟩
          · show IM _ _ _ _
            rw [hdl]
            exact HRM.out.cutAt hxm hRc HPP.out
          · have hp' := HPT.out _ (part_step hx1 (by rw [HM.out]; exact hxm) (fun j hj => by
              have := HAL.out.1 j hj
              rw [← HTT.out] at this
              exact this) (fun hx => by
              have := HAL.out.2 (by rw [HM.out] at hx; exact hx)
              rw [← HTT.out] at this
              exact this) hp)
            simpa using hp'
  · rw [errV_of he0]
    go_wp2_with fail
    refine bodyPost_ret (v := .tuple #[.slice none 0 0, .iface 55 (.int .i64 er)]) (by simp [results, Tryz.results8, go_sem]) rfl ?_
    exact ⟨⟨er, _, by rw [errV_of he0], .inl ⟨he0, HCF.out⟩, fun _ => rfl, fun h => absurd h he0⟩, HB2.out⟩
end Go.Proofs.YtbiikodnfaeceaaGreatDoor.so
