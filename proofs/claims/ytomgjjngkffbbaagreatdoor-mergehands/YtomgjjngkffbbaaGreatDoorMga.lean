
/- Merge, the plain side: a sheet is what its texts are; what is another one in a second sheet; a sheet with changes; two hands. Names no program beside Za. -/
import Derived.Test.YtomgjjngkffbbaaGreatDoorZa
namespace Go.Proofs.YtomgjjngkffbbaaGreatDoor.ps
theorem txt_nil (c r : Int) : txt [] c r = nul := rfl
theorem txt_cons (x : Fl) (l : List Fl) (c r : Int) : txt (x :: l) c r = if at' x c r = true then x.s else txt l c r := rfl
theorem txt_put (f : Fl) (c r : Int) : txt (put f) c r = if at' f c r = true then f.s else nul := by
  unfold put
  split
  · rename_i h
    rw [txt_nil, size_nul h]
    split <;> rfl
  · rfl
theorem txt_app_put (f : Fl) (l : List Fl) (c r : Int) (h : at' f c r = true → txt l c r = nul) : txt (put f ++ l) c r = if at' f c r = true then f.s else txt l c r := by
  unfold put
  split
  · rename_i h0
    rw [List.nil_append]
    split
    · rename_i h1
      rw [h h1, size_nul h0]
    · rfl
  · rfl
/-- The text of a cell, where another one was changed or this one. -/
theorem txt_wt {l : List Fl} (hs : Srt l) (f : Fl) (c r : Int) : txt (wt l f) c r = if f.c = c ∧ f.r = r then f.s else txt l c r := by
  have e : (at' f c r = true) ↔ (f.c = c ∧ f.r = r) := at_iff
  simp only [← e]
  induction l with
  | nil => exact txt_put f c r
  | cons x l ih =>
    have hs' := List.pairwise_cons.1 hs
    by_cases h1 : lt x f.c f.r = true
    · rw [show wt (x :: l) f = x :: wt l f by show (if _ then _ else _) = _; rw [if_pos h1], txt_cons, txt_cons, ih hs'.2]
      by_cases h2 : at' x c r = true
      · rw [if_pos h2, if_pos h2, if_neg]
        rw [at_iff] at h2 ⊢
        rw [lt_iff] at h1
        omega
      · rw [if_neg h2, if_neg h2]
    · by_cases h2 : at' x f.c f.r = true
      · rw [show wt (x :: l) f = put f ++ l by show (if _ then _ else _) = _; rw [if_neg h1, if_pos h2]]
        have h3 : at' f c r = true → txt l c r = nul := fun h => txt_none fun y hy => by
          have := hs'.1 y hy
          rw [at_no]
          rw [lt_iff] at this
          rw [at_iff] at h h2
          omega
        rw [txt_app_put f l c r h3, txt_cons]
        by_cases h4 : at' f c r = true
        · rw [if_pos h4, if_pos h4]
        · rw [if_neg h4, if_neg h4, if_neg]
          rw [at_iff] at h4 h2 ⊢
          omega
      · rw [show wt (x :: l) f = put f ++ x :: l by show (if _ then _ else _) = _; rw [if_neg h1, if_neg h2]]
        refine txt_app_put f (x :: l) c r fun h => txt_none fun y hy => ?_
        rw [at_no]
        rw [lt_iff] at h1
        rw [at_iff] at h h2
        rcases List.mem_cons.1 hy with rfl | hy
        · omega
        · have := hs'.1 y hy
          rw [lt_iff] at this
          omega
theorem size_of_ne {s : ByteArray} (h : s.size ≠ 0) : s ≠ nul := fun e => h (by rw [e]; rfl)
/-- A sheet is what its texts are. -/
theorem srt_ext {a b : List Fl} (ha : Srt a) (ga : Ful a) (hb : Srt b) (gb : Ful b) (h : ∀ c r, txt a c r = txt b c r) : a = b := by
  induction a generalizing b with
  | nil =>
    cases b with
    | nil => rfl
    | cons y b =>
      have h1 := txt_at hb (i := 0) (x := y) rfl
      rw [← h, txt_nil] at h1
      exact absurd h1.symm (size_of_ne (gb y (by simp)))
  | cons x a ih =>
    cases b with
    | nil =>
      have h1 := txt_at ha (i := 0) (x := x) rfl
      rw [h, txt_nil] at h1
      exact absurd h1.symm (size_of_ne (ga x (by simp)))
    | cons y b =>
      have ha' := List.pairwise_cons.1 ha
      have hb' := List.pairwise_cons.1 hb
      have h1 := txt_at ha (i := 0) (x := x) rfl
      have h2 := txt_at hb (i := 0) (x := y) rfl
      have hxy : x.c = y.c ∧ x.r = y.r := by
        refine Classical.byContradiction fun hn => ?_
        by_cases hl : lt x y.c y.r = true
        · refine absurd (h1.symm.trans ((h _ _).trans (txt_none fun z hz => ?_))) (size_of_ne (ga x (by simp)))
          rw [at_no]
          rw [lt_iff] at hl
          rcases List.mem_cons.1 hz with rfl | hz
          · omega
          · have := hb'.1 z hz
            rw [lt_iff] at this
            omega
        · refine absurd (h2.symm.trans ((h _ _).symm.trans (txt_none fun z hz => ?_))) (size_of_ne (gb y (by simp)))
          rw [at_no]
          rw [lt_iff] at hl
          rcases List.mem_cons.1 hz with rfl | hz
          · omega
          · have := ha'.1 z hz
            rw [lt_iff] at this
            omega
      have hs : x.s = y.s := by rw [← h1, ← h2, h, hxy.1, hxy.2]
      have e : x = y := by
        obtain ⟨c, r, s⟩ := x
        obtain ⟨c', r', s'⟩ := y
        simp only at hxy hs
        rw [hxy.1, hxy.2, hs]
      subst e
      rw [ih ha'.2 (fun z hz => ga z (by simp [hz])) hb'.2 (fun z hz => gb z (by simp [hz])) fun c r => ?_]
      by_cases h3 : at' x c r = true
      · have hh : ∀ l : List Fl, (∀ z ∈ l, lt x z.c z.r = true) → txt l c r = nul := fun l hl => txt_none fun z hz => by
          have := hl z hz
          rw [at_no]
          rw [lt_iff] at this
          rw [at_iff] at h3
          omega
        rw [hh a ha'.1, hh b hb'.1]
      · have := h c r
        rwa [txt_cons, txt_cons, if_neg h3, if_neg h3] at this
/-- The cells as they stand, by number. -/
def kc (t : Nat) : Int := ((t % 26 : Nat) : Int) + 1
def kr (t : Nat) : Int := ((t / 26 : Nat) : Int) + 1
def ne2 (a b : List Fl) (t : Nat) : Bool := decide (txt a (kc t) (kr t) ≠ txt b (kc t) (kr t))
/-- What is another one in b than in a, of the first n cells. -/
def df (a b : List Fl) (n : Nat) : List Fl := ((List.range n).filter (ne2 a b)).map fun t => ⟨kc t, kr t, txt b (kc t) (kr t)⟩
theorem df_succ (a b : List Fl) (n : Nat) : df a b (n + 1) = df a b n ++ if txt a (kc n) (kr n) ≠ txt b (kc n) (kr n) then [⟨kc n, kr n, txt b (kc n) (kr n)⟩] else [] := by
  unfold df
  rw [List.range_succ, List.filter_append, List.map_append]
  congr 1
  by_cases h : txt a (kc n) (kr n) = txt b (kc n) (kr n) <;> simp [ne2, h]
theorem kk_lt {t u : Nat} (h : t < u) : kr t < kr u ∨ (kr t = kr u ∧ kc t < kc u) := by unfold kr kc; omega
theorem df_srt (a b : List Fl) (n : Nat) : Srt (df a b n) := by
  unfold df Srt
  rw [List.pairwise_map]
  refine List.Pairwise.filter _ ?_
  refine List.pairwise_lt_range.imp fun {t u} h => ?_
  rw [lt_iff]
  exact kk_lt h
theorem df_mem {a b : List Fl} {n : Nat} {x : Fl} (h : x ∈ df a b n) : ∃ t, t < n ∧ x = ⟨kc t, kr t, txt b (kc t) (kr t)⟩ ∧ txt a x.c x.r ≠ txt b x.c x.r := by
  obtain ⟨t, ht, rfl⟩ := List.mem_map.1 h
  obtain ⟨h1, h2⟩ := List.mem_filter.1 ht
  exact ⟨t, List.mem_range.1 h1, rfl, of_decide_eq_true h2⟩
theorem df_in {a b : List Fl} {n t : Nat} (ht : t < n) (h : txt a (kc t) (kr t) ≠ txt b (kc t) (kr t)) : (⟨kc t, kr t, txt b (kc t) (kr t)⟩ : Fl) ∈ df a b n :=
  List.mem_map.2 ⟨t, List.mem_filter.2 ⟨List.mem_range.2 ht, decide_eq_true h⟩, rfl⟩
theorem df_self (a : List Fl) (n : Nat) : df a a n = [] := by
  unfold df
  rw [List.map_eq_nil_iff, List.filter_eq_nil_iff]
  intro t _
  simp [ne2]
theorem df_turned (a b : List Fl) (n : Nat) : (df a b n).length = (df b a n).length := by
  unfold df
  rw [List.length_map, List.length_map]
  congr 1
  refine List.filter_congr fun t _ => ?_
  unfold ne2
  exact decide_eq_decide.2 ne_comm
/-- A sheet with changes. -/
def ap (l d : List Fl) : List Fl := d.foldl wt l
theorem ap_srt {l : List Fl} (d : List Fl) (h : Srt l) : Srt (ap l d) := by
  induction d generalizing l with
  | nil => exact h
  | cons x d ih => exact ih (wt_srt h x)
theorem ap_ful {l : List Fl} (d : List Fl) (h : Ful l) : Ful (ap l d) := by
  induction d generalizing l with
  | nil => exact h
  | cons x d ih => exact ih (wt_ful h x)
theorem ap_no {l d : List Fl} (hs : Srt l) {c r : Int} (h : ∀ x ∈ d, ¬ (x.c = c ∧ x.r = r)) : txt (ap l d) c r = txt l c r := by
  induction d generalizing l with
  | nil => rfl
  | cons x d ih =>
    show txt (ap (wt l x) d) c r = _
    rw [ih (wt_srt hs x) fun y hy => h y (by simp [hy]), txt_wt hs, if_neg (h x (by simp))]
theorem ap_yes {l d : List Fl} (hs : Srt l) (hd : Srt d) {x : Fl} (hx : x ∈ d) : txt (ap l d) x.c x.r = x.s := by
  induction d generalizing l with
  | nil => simp at hx
  | cons y d ih =>
    have hd' := List.pairwise_cons.1 hd
    show txt (ap (wt l y) d) x.c x.r = _
    rcases List.mem_cons.1 hx with rfl | hx
    · rw [ap_no (wt_srt hs x), txt_wt hs, if_pos ⟨rfl, rfl⟩]
      intro z hz
      have := hd'.1 z hz
      rw [lt_iff] at this
      omega
    · exact ih (wt_srt hs y) hd'.2 hx
/-- Every cell of it is one of the sheet's 26 columns and 99 rows. -/
def InG (l : List Fl) : Prop := ∀ x ∈ l, (1 ≤ x.c ∧ x.c ≤ 26) ∧ 1 ≤ x.r ∧ x.r ≤ 99
theorem ing_none {l : List Fl} (h : InG l) {c r : Int} (hn : ¬ ∃ t, t < 2574 ∧ kc t = c ∧ kr t = r) : txt l c r = nul := txt_none fun x hx => by
  rw [at_no]
  rintro ⟨rfl, rfl⟩
  have := h x hx
  refine hn ⟨(x.r.toNat - 1) * 26 + (x.c.toNat - 1), ?_, ?_, ?_⟩
  · omega
  · unfold kc; omega
  · unfold kr; omega
/-- The text of a cell, where the changes from b to c were done to l. -/
theorem txt_ap_dn {n : Nat} (hn9 : n = 2574) {l b c : List Fl} (hl : Srt l) (hb : InG b) (hc : InG c) (i j : Int) : txt (ap l (df b c n)) i j = if txt b i j ≠ txt c i j then txt c i j else txt l i j := by
  by_cases h : txt b i j = txt c i j
  · rw [if_neg (by simp [h])]
    refine ap_no hl ?_
    rintro x hx ⟨rfl, rfl⟩
    obtain ⟨t, -, -, h2⟩ := df_mem hx
    exact h2 h
  · rw [if_pos h]
    by_cases hn : ∃ t, t < 2574 ∧ kc t = i ∧ kr t = j
    · obtain ⟨t, ht, rfl, rfl⟩ := hn
      exact ap_yes hl (df_srt b c n) (df_in (hn9 ▸ ht) h)
    · exact absurd ((ing_none hb hn).trans (ing_none hc hn).symm) h
theorem txt_ap_df {l b c : List Fl} (hl : Srt l) (hb : InG b) (hc : InG c) (i j : Int) : txt (ap l (df b c 2574)) i j = if txt b i j ≠ txt c i j then txt c i j else txt l i j := txt_ap_dn rfl hl hb hc i j
/-- What differs makes one of the other; done again, it changes nothing. -/
theorem ap_df {l b c : List Fl} (hl : Srt l) (gl : Ful l) (hb : InG b) (hc : Srt c) (gc : Ful c) (ic : InG c) (h : ∀ i j, txt b i j = txt c i j → txt l i j = txt c i j) : ap l (df b c 2574) = c := by
  refine srt_ext (ap_srt _ hl) (ap_ful _ gl) hc gc fun i j => ?_
  rw [txt_ap_df hl hb ic]
  by_cases e : txt b i j = txt c i j
  · rw [if_neg (by simp [e]), h i j e]
  · rw [if_pos e]
theorem ap_diff {a b : List Fl} (ha : Srt a) (ga : Ful a) (ia : InG a) (hb : Srt b) (gb : Ful b) (ib : InG b) : ap a (df a b 2574) = b := ap_df ha ga ia hb gb ib fun _ _ h => h
theorem ap_again {b c : List Fl} (ib : InG b) (hc : Srt c) (gc : Ful c) (ic : InG c) : ap c (df b c 2574) = c := ap_df hc gc ib hc gc ic fun _ _ _ => rfl
/-- Two hands: what both made of a base. -/
def th (s a b : List Fl) : List Fl := ap b (df s a 2574)
def bo (s a b : List Fl) (t : Nat) : Bool := ne2 s a t && ne2 s b t && ne2 a b t
theorem th_first (s b : List Fl) : th s s b = b := by unfold th; rw [df_self]; rfl
theorem th_alike {s a : List Fl} (is : InG s) (ha : Srt a) (ga : Ful a) (ia : InG a) : th s a a = a := ap_again is ha ga ia
theorem bo_turned (s a b : List Fl) (t : Nat) : bo s a b t = bo s b a t := by
  unfold bo ne2
  by_cases h1 : txt s (kc t) (kr t) = txt a (kc t) (kr t) <;> by_cases h2 : txt s (kc t) (kr t) = txt b (kc t) (kr t) <;> simp [h1, h2, eq_comm]
/-- Whoever is first: the cells that are told are those in which the two differ. -/
theorem th_turned {s a b : List Fl} (is : InG s) (ha : Srt a) (ia : InG a) (hb : Srt b) (ib : InG b) (t : Nat) : ne2 (th s a b) (th s b a) t = bo s a b t := by
  unfold ne2 th bo ne2
  rw [txt_ap_df hb is ia, txt_ap_df ha is ib]
  by_cases h1 : txt s (kc t) (kr t) = txt a (kc t) (kr t) <;> by_cases h2 : txt s (kc t) (kr t) = txt b (kc t) (kr t) <;> simp_all
end Go.Proofs.YtomgjjngkffbbaaGreatDoor.ps
