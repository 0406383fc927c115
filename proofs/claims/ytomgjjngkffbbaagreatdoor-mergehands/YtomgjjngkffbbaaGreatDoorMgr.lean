
/- Package merge: what two hands made of a base, row by row; plain. Conditions: as each theorem says. -/
import Derived.Test.YtomgjjngkffbbaaGreatDoorMgm
import Derived.Test.YtomgjjngkffbbaaGreatDoorMgp
namespace Go.Proofs.YtomgjjngkffbbaaGreatDoor.ps
open Go.RowKit
open adr (isC)
/-- A text that a cell has stands in a row. -/
theorem txt_some {a : List Fl} (hs : Srt a) {c r : Int} (h : txt a c r ≠ nul) : ∃ y ∈ a, y.c = c ∧ y.r = r ∧ txt a c r = y.s := by
  refine Classical.byContradiction fun hno => h (txt_none fun y hy => ?_)
  rw [at_no]
  rintro ⟨rfl, rfl⟩
  obtain ⟨j, hj⟩ := List.getElem?_of_mem hy
  exact hno ⟨y, hy, rfl, rfl, txt_at hs hj⟩
theorem th_txt {s a b : List Fl} (hs : Fine s) (ha : Fine a) (hb : Fine b) (c r : Int) : txt (th s a b) c r = if txt s c r ≠ txt a c r then txt a c r else txt b c r := txt_ap_df hb.srt hs.ing ha.ing c r
theorem th_srt {s a b : List Fl} (hb : Fine b) : Srt (th s a b) := ap_srt _ hb.srt
theorem th_ful {s a b : List Fl} (hb : Fine b) : Ful (th s a b) := ap_ful _ hb.ful
/-- What both made is a sheet, if it has not too many cells. -/
theorem th_told {s a b : List Fl} (hs : Told s 0) (ha : Told a 0) (hb : Told b 0) (hl : (th s a b).length ≤ 200) : Told (th s a b) 0 := by
  refine told_good (th_srt hb.fine) hl fun x hx => ?_
  obtain ⟨j, hj⟩ := List.getElem?_of_mem hx
  have e1 := txt_at (th_srt (s := s) (a := a) hb.fine) hj
  have e2 := th_txt hs.fine ha.fine hb.fine x.c x.r
  have hne := size_of_ne (th_ful (s := s) (a := a) hb.fine x hx)
  rw [e1] at e2
  split at e2
  · obtain ⟨y, hy, h1, h2, h3⟩ := txt_some (c := x.c) (r := x.r) ha.fine.srt (by rw [← e2]; exact hne)
    have h4 : x.s = y.s := e2.trans h3
    rw [h4, ← h1, ← h2]
    exact ⟨(ha.fine.cell y hy).1, told_ck ha hy⟩
  · obtain ⟨y, hy, h1, h2, h3⟩ := txt_some (c := x.c) (r := x.r) hb.fine.srt (by rw [← e2]; exact hne)
    have h4 : x.s = y.s := e2.trans h3
    rw [h4, ← h1, ← h2]
    exact ⟨(hb.fine.cell y hy).1, told_ck hb hy⟩
end Go.Proofs.YtomgjjngkffbbaaGreatDoor.ps
namespace Go.Proofs.YtomgjjngkffbbaaGreatDoor.fw
open Go Go.RowKit Go.Sort Go.Maps
/-- The text that a cell comes to have of what two made of a base. -/
def bth (x : Tr) : ByteArray := if x.s1 = x.s0 then x.s2 else x.s1
/-- Whether they made two things of it. -/
def clB (x : Tr) : Bool := decide (x.s1 ≠ x.s0) && decide (x.s2 ≠ x.s0) && decide (x.s2 ≠ x.s1)
def cz (x : Tr) : Int × Int := (x.c, x.r)
def thY (l : List Tr) : List ps.Fl := (l.filter fun x => decide ((bth x).size ≠ 0)).map fun x => ⟨x.c, x.r, bth x⟩
def clY (l : List Tr) : List (Int × Int) := (l.filter clB).map cz
theorem thY_snoc (l : List Tr) (x : Tr) : thY (l ++ [x]) = thY l ++ if (bth x).size ≠ 0 then [⟨x.c, x.r, bth x⟩] else [] := by
  unfold thY
  rw [List.filter_append, List.map_append]
  congr 1
  by_cases h : (bth x).size = 0
  · rw [if_neg (fun e => e h), List.filter_cons_of_neg (by simp [h])]; rfl
  · rw [if_pos h, List.filter_cons_of_pos (by simp [h])]; rfl
theorem clY_snoc (l : List Tr) (x : Tr) : clY (l ++ [x]) = clY l ++ if clB x = true then [cz x] else [] := by
  unfold clY
  rw [List.filter_append, List.map_append]
  congr 1
  by_cases h : clB x = true <;> simp [h]
theorem thY_len (l : List Tr) : (thY l).length ≤ l.length := by
  unfold thY
  rw [List.length_map]
  exact List.length_filter_le _ _
theorem clY_len (l : List Tr) : (clY l).length ≤ l.length := by
  unfold clY
  rw [List.length_map]
  exact List.length_filter_le _ _
theorem thY_srt {Y : List Tr} (hs : Y.Pairwise ltT) : ps.Srt (thY Y) := by
  unfold thY ps.Srt
  rw [List.pairwise_map]
  refine (List.Pairwise.filter _ hs).imp fun {x y} h => ?_
  rw [ps.lt_iff]
  exact h
theorem thY_ful (Y : List Tr) : ps.Ful (thY Y) := fun x hx => by
  unfold thY at hx
  obtain ⟨y, hy, rfl⟩ := List.mem_map.1 hx
  exact of_decide_eq_true (List.mem_filter.1 hy).2
theorem thY_txt {Y : List Tr} {A : Nat → List ps.Fl} (hs : Y.Pairwise ltT) (h : TB Y A) (c r : Int) : ps.txt (thY Y) c r = if ps.txt (A 1) c r = ps.txt (A 0) c r then ps.txt (A 2) c r else ps.txt (A 1) c r := by
  by_cases he : ∃ y ∈ Y, y.c = c ∧ y.r = r
  · obtain ⟨y, hy, rfl, rfl⟩ := he
    obtain ⟨t0, t1, t2⟩ := h.txt y hy
    rw [← t0, ← t1, ← t2]
    show _ = bth y
    by_cases h0 : (bth y).size = 0
    · rw [ps.size_nul h0]
      refine ps.txt_none fun f hf => ?_
      rw [ps.at_no]
      rintro ⟨e1, e2⟩
      unfold thY at hf
      obtain ⟨z, hz, rfl⟩ := List.mem_map.1 hf
      obtain ⟨hz1, hz2⟩ := List.mem_filter.1 hz
      have e : z = y := h.one z hz1 y hy e1 e2
      subst e
      exact of_decide_eq_true hz2 h0
    · have hm : (⟨y.c, y.r, bth y⟩ : ps.Fl) ∈ thY Y := by
        unfold thY
        exact List.mem_map.2 ⟨y, List.mem_filter.2 ⟨hy, decide_eq_true h0⟩, rfl⟩
      obtain ⟨j, hj⟩ := List.getElem?_of_mem hm
      exact ps.txt_at (thY_srt hs) hj
  · have hn : ∀ y ∈ Y, ¬ (y.c = c ∧ y.r = r) := fun y hy e => he ⟨y, hy, e⟩
    rw [h.no hn (j := 0) (by decide), h.no hn (j := 1) (by decide), h.no hn (j := 2) (by decide), if_pos rfl]
    refine ps.txt_none fun f hf => ?_
    rw [ps.at_no]
    rintro ⟨e1, e2⟩
    unfold thY at hf
    obtain ⟨z, hz, rfl⟩ := List.mem_map.1 hf
    exact hn z (List.mem_filter.1 hz).1 ⟨e1, e2⟩
theorem thY_is {Y : List Tr} {A : Nat → List ps.Fl} (hs : Y.Pairwise ltT) (h : TB Y A) (h0 : ps.Fine (A 0)) (h1 : ps.Fine (A 1)) (h2 : ps.Fine (A 2)) : thY Y = ps.th (A 0) (A 1) (A 2) := by
  refine ps.srt_ext (thY_srt hs) (thY_ful Y) (ps.th_srt h2) (ps.th_ful h2) fun c r => ?_
  rw [thY_txt hs h, ps.th_txt h0 h1 h2]
  by_cases e : ps.txt (A 1) c r = ps.txt (A 0) c r
  · rw [if_pos e, if_neg (by simp [e])]
  · rw [if_neg e, if_pos (fun e2 => e e2.symm)]
/-- The cells of which two made two things, as they stand. -/
def boT (s a b : List ps.Fl) : List (Int × Int) := ((List.range 2574).filter (ps.bo s a b)).map fun t => (ps.kc t, ps.kr t)
def ltP (x y : Int × Int) : Prop := x.2 < y.2 ∨ (x.2 = y.2 ∧ x.1 < y.1)
theorem ltP_asym {x y : Int × Int} (h : ltP x y) : ¬ ltP y x := by
  unfold ltP at *
  omega
theorem boT_srt (s a b : List ps.Fl) : (boT s a b).Pairwise ltP := by
  unfold boT
  rw [List.pairwise_map]
  refine (List.Pairwise.filter _ List.pairwise_lt_range).imp fun {x y} h => ?_
  unfold ltP
  exact ps.kk_lt h
theorem clY_srt {Y : List Tr} (hs : Y.Pairwise ltT) : (clY Y).Pairwise ltP := by
  unfold clY
  rw [List.pairwise_map]
  exact (List.Pairwise.filter _ hs).imp fun {x y} h => h
theorem clY_is {Y : List Tr} {A : Nat → List ps.Fl} (hs : Y.Pairwise ltT) (h : TB Y A) : clY Y = boT (A 0) (A 1) (A 2) := by
  refine ord_ext (R := ltP) (fun x y => ltP_asym) (clY_srt hs) (boT_srt _ _ _) fun x => ?_
  constructor
  · intro hx
    unfold clY at hx
    obtain ⟨y, hy, rfl⟩ := List.mem_map.1 hx
    obtain ⟨hy1, hy2⟩ := List.mem_filter.1 hy
    obtain ⟨t, ht, e1, e2⟩ := grid_no (h.grid y hy1)
    obtain ⟨t0, t1, t2⟩ := h.txt y hy1
    unfold boT
    refine List.mem_map.2 ⟨t, List.mem_filter.2 ⟨List.mem_range.2 ht, ?_⟩, by unfold cz; rw [e1, e2]⟩
    unfold clB at hy2
    rw [t0, t1, t2] at hy2
    unfold ps.bo ps.ne2
    rw [e1, e2]
    simp only [Bool.and_eq_true, decide_eq_true_eq] at hy2 ⊢
    exact ⟨⟨fun e => hy2.1.1 e.symm, fun e => hy2.1.2 e.symm⟩, fun e => hy2.2 e.symm⟩
  · intro hx
    unfold boT at hx
    obtain ⟨t, ht, rfl⟩ := List.mem_map.1 hx
    obtain ⟨ht1, ht2⟩ := List.mem_filter.1 ht
    unfold ps.bo ps.ne2 at ht2
    simp only [Bool.and_eq_true, decide_eq_true_eq] at ht2
    have hy : ∃ y ∈ Y, y.c = ps.kc t ∧ y.r = ps.kr t := by
      refine Classical.byContradiction fun hn => ht2.1.1 ?_
      have hn' : ∀ y ∈ Y, ¬ (y.c = ps.kc t ∧ y.r = ps.kr t) := fun y hy e => hn ⟨y, hy, e⟩
      rw [h.no hn' (j := 0) (by decide), h.no hn' (j := 1) (by decide)]
    obtain ⟨y, hy, e1, e2⟩ := hy
    obtain ⟨t0, t1, t2⟩ := h.txt y hy
    rw [e1, e2] at t0 t1 t2
    unfold clY
    refine List.mem_map.2 ⟨y, List.mem_filter.2 ⟨hy, ?_⟩, by unfold cz; rw [e1, e2]⟩
    unfold clB
    rw [t0, t1, t2]
    simp only [Bool.and_eq_true, decide_eq_true_eq]
    exact ⟨⟨fun e => ht2.1.1 e.symm, fun e => ht2.1.2 e.symm⟩, fun e => ht2.2 e.symm⟩
theorem boT_first (s b : List ps.Fl) : boT s s b = [] := by
  unfold boT
  rw [List.filter_eq_nil_iff.2 fun t _ => by simp [ps.bo, ps.ne2]]
  rfl
theorem boT_alike (s a : List ps.Fl) : boT s a a = [] := by
  unfold boT
  rw [List.filter_eq_nil_iff.2 fun t _ => by simp [ps.bo, ps.ne2]]
  rfl
theorem boT_turned (s a b : List ps.Fl) : boT s a b = boT s b a := by
  unfold boT
  rw [show ps.bo s a b = ps.bo s b a from funext fun t => ps.bo_turned s a b t]
theorem boT_len (s a b : List ps.Fl) : (boT s a b).length ≤ 2574 := by
  unfold boT
  rw [List.length_map]
  refine Nat.le_trans (List.length_filter_le _ _) ?_
  rw [List.length_range]
  exact Nat.le_refl _
/-- Whoever is first: the cells in which the two differ are those that are told. -/
theorem df_boT {s a b : List ps.Fl} (hs : ps.Fine s) (ha : ps.Fine a) (hb : ps.Fine b) : (ps.df (ps.th s a b) (ps.th s b a) 2574).map (fun x => (x.c, x.r)) = boT s a b := by
  unfold ps.df boT
  rw [show ps.ne2 (ps.th s a b) (ps.th s b a) = ps.bo s a b from funext fun t => ps.th_turned hs.ing ha.srt ha.ing hb.srt hb.ing t, List.map_map]
  rfl
end Go.Proofs.YtomgjjngkffbbaaGreatDoor.fw
