/- A past that is played on, in plain words. Nothing is walked here. -/
import Derived.Test.YtcekgefkimbfaaaGreatDoorJj
import Derived.Test.YtcekgefkimbfaaaGreatDoorXd
import Derived.Test.YtcekgefkimbfaaaGreatDoorJh
import Derived.Test.YtcekgefkimbfaaaGreatDoorJa
namespace Go.Proofs.YtcekgefkimbfaaaGreatDoor.ps
open adr (isC)
theorem wt_mem {x : List Fl} {f g : Fl} (h : g ∈ wt x f) : g ∈ x ∨ g = f := by
  have hp : ∀ {g : Fl}, g ∈ put f → g = f := fun {g} h => by
    unfold put at h
    split at h
    · cases h
    · simpa using h
  induction x with
  | nil => exact .inr (hp h)
  | cons y l ih =>
    rw [wt] at h
    split at h
    · rcases List.mem_cons.1 h with h | h
      · exact .inl (by simp [h])
      · rcases ih h with h | h
        · exact .inl (by simp [h])
        · exact .inr h
    · split at h
      · rcases List.mem_append.1 h with h | h
        · exact .inr (hp h)
        · exact .inl (by simp [h])
      · rcases List.mem_append.1 h with h | h
        · exact .inr (hp h)
        · exact .inl h
/-- A sheet: cells as they stand, each one a cell, with a text. -/
structure Sh (x : List Fl) : Prop where
  srt : Srt x
  ful : Ful x
  cl : ∀ f ∈ x, isC f.c f.r = true
theorem Sh.len {x : List Fl} (h : Sh x) : x.length ≤ 2600 := by
  rcases srt_len x 0 h.srt (fun f hf => by
    have hc := h.cl f hf
    have := adr.isC_iff.1 hc
    exact ⟨hc, by omega⟩) with h | h
  · omega
  · subst h; simp
theorem Sh.wt {x : List Fl} (h : Sh x) {f : Fl} (hf : SCk f 0) : Sh (wt x f) :=
  ⟨wt_srt h.srt f, wt_ful h.ful f, fun g hg => by
    rcases wt_mem hg with hg | hg
    · exact h.cl g hg
    · subst hg; exact hf.isC⟩
theorem Sh.fold {x : List Fl} (h : Sh x) : ∀ {l : List Fl}, (∀ f ∈ l, SCk f 0) → Sh (l.foldl ps.wt x)
  | [], _ => h
  | f :: l, hl => (h.wt (hl f (by simp))).fold (l := l) (fun g hg => hl g (by simp [hg]))
theorem Told.sh {x : List Fl} (h : Told x 0) : Sh x := ⟨h.fine.srt, fun f hf => (h.fine.cell f hf).2.1, fun f hf => (h.fine.cell f hf).1⟩
/-- The sheets one could go to, and the steps between them. -/
structure PL (A : List (List Fl)) (st : List St) : Prop where
  len : A.length = st.length + 1
  each : ∀ x ∈ A, Sh x ∧ x.length ≤ 200
  step : ∀ (i : Nat) (s : St) (x y : List Fl), st[i]? = some s → A[i]? = some x → A[i + 1]? = some y → wl s.b x = y ∧ wl s.a y = x ∧ s.a.length ≤ 50000 ∧ s.b.length ≤ 50000
theorem PL.one {x : List Fl} (h : Sh x) (hl : x.length ≤ 200) : PL [x] [] := ⟨rfl, fun y hy => by
  have e : y = x := by simpa using hy
  subst e
  exact ⟨h, hl⟩, fun i s x y h => by simp at h⟩
theorem PL.push {A : List (List Fl)} {st : List St} (h : PL A st) {k : Nat} {x Z : List Fl} {s : St} (hx : A[k]? = some x) (hZ : Sh Z ∧ Z.length ≤ 200) (h1 : wl s.b x = Z ∧ wl s.a Z = x ∧ s.a.length ≤ 50000 ∧ s.b.length ≤ 50000) : PL (A.take (k + 1) ++ [Z]) (st.take k ++ [s]) := by
  have hk := (List.getElem?_eq_some_iff.1 hx).1
  have hl := h.len
  refine ⟨by simp; omega, fun y hy => ?_, fun i t y z ht hy hz => ?_⟩
  · rcases List.mem_append.1 hy with hy | hy
    · exact h.each y (List.mem_of_mem_take hy)
    · have e : y = Z := by simpa using hy
      subst e
      exact hZ
  · have hi : i < k + 1 := by
      have := (List.getElem?_eq_some_iff.1 ht).1
      simp at this
      omega
    by_cases hik : i < k
    · rw [List.getElem?_append_left (by simp; omega), List.getElem?_take_of_lt hik] at ht
      rw [List.getElem?_append_left (by simp; omega), List.getElem?_take_of_lt (by omega)] at hy hz
      exact h.step i t y z ht hy hz
    · obtain rfl : i = k := by omega
      rw [List.getElem?_append_right (by simp; omega)] at ht
      rw [List.getElem?_append_left (by simp; omega), List.getElem?_take_of_lt (by omega), hx] at hy
      rw [List.getElem?_append_right (by simp; omega)] at hz
      have e1 : t = s := by
        have : i - (st.take i).length = 0 := by simp; omega
        rw [this] at ht
        simpa using ht.symm
      have e2 : z = Z := by
        have : i + 1 - (A.take (i + 1)).length = 0 := by simp; omega
        rw [this] at hz
        simpa using hz.symm
      injection hy with hy
      subst e1 e2 hy
      exact h1
/-- What a Group leaves, whatever it answers. -/
theorem GO.play {bp : Nat} {xs : List Fl} {st : List St} {kd : Nat} {l : List Fl} {vn vs : Value} {t : Int} {w' : World} (h : GO bp xs st kd l vn vs t w') (hS : Sh xs) (hl : xs.length ≤ 200) :
    (t ≠ 0 ∧ PS w' bp xs st kd vn vs ∧ ((∃ i f, l[i]? = some f ∧ SCk f t ∧ ∀ g ∈ l.take i, SCk g 0) ∨ ((∀ f ∈ l, SCk f 0) ∧ t = 4 ∧ 200 < (l.foldl wt xs).length))) ∨
    (t = 0 ∧ (∀ f ∈ l, SCk f 0) ∧ (l.foldl wt xs).length ≤ 200 ∧ ((l.foldl wt xs = xs ∧ PS w' bp xs st kd vn vs) ∨ (l.foldl wt xs ≠ xs ∧ ∃ s vn' vs', PS w' bp (l.foldl wt xs) (st.take kd ++ [s]) (kd + 1) vn' vs' ∧ wl s.b xs = l.foldl wt xs ∧ wl s.a (l.foldl wt xs) = xs ∧ s.a.length ≤ 50000 ∧ s.b.length ≤ 50000))) := by
  rcases h with ⟨h, h2, i, f, h3⟩ | ⟨ha, o, ho, hol, h⟩
  · exact .inl ⟨h, h2, .inl ⟨i, f, h3⟩⟩
  · have e := group_all ho hS.srt hS.ful
    rcases h with ⟨h0, h1, h2⟩ | ⟨h0, -, h1, h2⟩ | ⟨h0, h1, h2, s, vn', vs', ea, eb, h3⟩
    · have e1 := (step_none ho hS.srt hS.ful).1 h1
      exact .inr ⟨h0, ha, by rw [e1]; exact hl, .inl ⟨e1, h2⟩⟩
    · rw [e] at h1
      exact .inl ⟨by rw [h0]; decide, h2, .inr ⟨ha, h0, h1⟩⟩
    · rw [e] at h2 h3
      have h4 := stB_len xs o
      refine .inr ⟨h0, ha, h2, .inr ⟨fun h => h1 ((step_none ho hS.srt hS.ful).2 h), s, vn', vs', h3, by rw [eb]; exact e, ?_, ?_, ?_⟩⟩
      · rw [← e, ea]; exact group_back ho.1 hS.srt hS.ful
      · rw [ea, stA_len]; omega
      · rw [eb]; omega
/-- How far the reference came with some texts: the fault, and the sheet. -/
def RE (l xs : List Fl) (j : Nat) (e : Int) (Z : List Fl) : Prop :=
  (e = 0 ∧ (∀ f ∈ l.take j, SCk f 0) ∧ Z = (l.take j).foldl wt xs) ∨ (e ≠ 0 ∧ ∃ i f, i + 1 = j ∧ l[i]? = some f ∧ SCk f e ∧ (∀ g ∈ l.take i, SCk g 0) ∧ Z = (l.take i).foldl wt xs)
theorem RE.sh {l xs Z : List Fl} {j : Nat} {e : Int} (h : RE l xs j e Z) (hS : Sh xs) : Sh Z := by
  rcases h with ⟨-, h1, h2⟩ | ⟨-, i, f, -, -, -, h1, h2⟩
  · rw [h2]; exact hS.fold h1
  · rw [h2]; exact hS.fold h1
/-- The number that is told at last. -/
def eF (e : Int) (n : Nat) : Int := if e = 0 ∧ 200 < n then 4 else e
theorem RE.told {l xs Z : List Fl} {j : Nat} {e t : Int} (h : RE l xs j e Z) (hj : e ≠ 0 ∨ j = l.length)
    (ht : (t ≠ 0 ∧ ((∃ i f, l[i]? = some f ∧ SCk f t ∧ ∀ g ∈ l.take i, SCk g 0) ∨ ((∀ f ∈ l, SCk f 0) ∧ t = 4 ∧ 200 < (l.foldl wt xs).length))) ∨ (t = 0 ∧ (∀ f ∈ l, SCk f 0) ∧ (l.foldl wt xs).length ≤ 200)) :
    eF e Z.length = t ∧ (t = 0 → Z = l.foldl wt xs) := by
  rcases h with ⟨h0, h1, h2⟩ | ⟨h0, i, f, hij, hi, hf, h1, h2⟩
  · have hj : j = l.length := by
      rcases hj with hj | hj
      · exact absurd h0 hj
      · exact hj
    subst hj
    rw [List.take_length] at h1 h2
    subst h0
    rcases ht with ⟨t0, ⟨i, f, hi, hf, -⟩ | ⟨-, h4, h5⟩⟩ | ⟨t0, -, h5⟩
    · exact absurd (hf.one (h1 f (List.mem_of_getElem? hi))) t0
    · rw [← h2] at h5
      exact ⟨by rw [eF, if_pos ⟨rfl, h5⟩, h4], fun _ => h2⟩
    · rw [← h2] at h5
      exact ⟨by rw [eF, if_neg (by omega), t0], fun _ => h2⟩
  · have hm : f ∈ l := List.mem_of_getElem? hi
    rcases ht with ⟨t0, ⟨i', f', hi', hf', h1'⟩ | ⟨ha, -⟩⟩ | ⟨-, ha, -⟩
    · have e1 : i = i' := by
        rcases Nat.lt_trichotomy i i' with hlt | heq | hgt
        · have := h1' f (List.mem_iff_getElem?.2 ⟨i, by rw [List.getElem?_take_of_lt hlt]; exact hi⟩)
          exact absurd (hf.one this) h0
        · exact heq
        · have := h1 f' (List.mem_iff_getElem?.2 ⟨i', by rw [List.getElem?_take_of_lt hgt]; exact hi'⟩)
          exact absurd (hf'.one this) t0
      subst e1
      rw [hi] at hi'
      injection hi' with hi'
      subst hi'
      have e2 := hf.one hf'
      exact ⟨by rw [eF, if_neg (fun h => h0 h.1), e2], fun h => absurd h t0⟩
    · exact absurd (hf.one (ha f hm)) h0
    · exact absurd (hf.one (ha f hm)) h0
end Go.Proofs.YtcekgefkimbfaaaGreatDoor.ps
/- What lies in memory while a past is played on: the list of sheets. Conditions: as each theorem says. -/
namespace Go.Proofs.YtcekgefkimbfaaaGreatDoor.ps
open Go.RowKit
open adr (C)
theorem info22 : (Tryz.prog.info? 22).map (fun i => (i.zero, i.size, i.bytes)) = some (some (.slice none 0 0), 1, 24) := by kernel_rfl
theorem own_nextT {wx wy : World} {B e size : Nat} {v : Value} {n : Nat} {xs : List Value} (h : wx.ownsRow B e size v n xs) (hb : Below wx.heap.size wx wy) : wy.ownsRow B e size v n xs := by
  refine ⟨h.1, ?_⟩
  rcases h.2 with h0 | ⟨g, cap, cur, h1, h2, hg, h4⟩
  · exact .inl h0
  · exact .inr ⟨g, cap, cur, h1, h2, (hb.block g (fm.lt_blk hg)).trans hg, h4⟩
/-- A list of sheets: each one was handed in, or lies in a block of its own. -/
structure AL (w0 : World) (A : List (List Fl)) (vA : Value) (vals : List Value) (w : World) : Prop where
  own : w.ownsRow w0.heap.size 22 1 vA A.length vals
  each : ∀ (i : Nat) (x : List Fl), A[i]? = some x → ∃ p c, vals[i]? = some (.slice p x.length c) ∧ (FM w0 p x ∨ FB w (.slice p x.length c) x)
theorem AL.next {w0 : World} {A : List (List Fl)} {vA : Value} {vals : List Value} {w w' : World} (h : AL w0 A vA vals w) (hb : Below w.heap.size w w') : AL w0 A vA vals w' :=
  ⟨own_nextT h.own hb, fun i x hx => by
    obtain ⟨p, c, h1, h2⟩ := h.each i x hx
    exact ⟨p, c, h1, h2.imp id (fun h => h.below hb)⟩⟩
theorem AL.kp {w0 : World} {A : List (List Fl)} {vA : Value} {vals : List Value} {w w' : World} {bp : Nat} (h : AL w0 A vA vals w) (hk : KP bp w w') : AL w0 A vA vals w' := by
  refine ⟨⟨h.own.1, ?_⟩, fun i x hx => ?_⟩
  · rcases h.own.2 with h0 | ⟨g, cap, cur, h1, h2, hg, h4⟩
    · exact .inl h0
    · exact .inr ⟨g, cap, cur, h1, h2, hk.lst _ _ _ hg, h4⟩
  · obtain ⟨p, c, h1, h2⟩ := h.each i x hx
    exact ⟨p, c, h1, h2.imp id (fun h => h.kp hk)⟩
theorem fb_fm {w : World} {p : Option Addr} {n c : Nat} {xs : List Fl} (h : FB w (.slice p n c) xs) : FM w p xs := by
  obtain ⟨p', c', e, hm, -⟩ := h.full
  injection e with e1 _ _
  subst e1
  exact hm
theorem lies_fm {w0 w : World} {p : Option Addr} {n c : Nat} {x : List Fl} (h : FM w0 p x ∨ FB w (.slice p n c) x) (hB : Below w0.heap.size w0 w) : FM w p x := by
  rcases h with h | h
  · exact h.below hB
  · exact fb_fm h
theorem AL.at {w0 : World} {A : List (List Fl)} {vA : Value} {vals : List Value} {w : World} (h : AL w0 A vA vals w) (hB : Below w0.heap.size w0 w) {k : Nat} {x : List Fl} (hx : A[k]? = some x) :
    ∃ ga ca p c, vA = .slice (some ⟨ga, 0, none⟩) A.length ca ∧ w.cell? ⟨ga, k, none⟩ = some (.slice p x.length c) ∧ FM w p x ∧ ga < w.heap.size ∧ (FM w0 p x ∨ FB w (.slice p x.length c) x) ∧ A.length ≤ ca ∧ vals[k]? = some (.slice p x.length c) := by
  obtain ⟨p, c, h1, h2⟩ := h.each k x hx
  have hk := (List.getElem?_eq_some_iff.1 hx).1
  rcases h.own.2 with ⟨-, h0⟩ | ⟨g, cap, cur, e1, -, hg, hc, -, -, ht⟩
  · omega
  · refine ⟨g, cap, p, c, e1, ?_, lies_fm h2 hB, fm.lt_blk hg, h2, hc, h1⟩
    rw [fm.cell_blk hg]
    have h3 := h1
    rw [← ht, List.getElem?_take] at h3
    split at h3
    · simpa using h3
    · cases h3
set_option maxRecDepth 100000 in
/-- The sheets up to one, and another one behind them. -/
theorem AL.push {w0 : World} {A : List (List Fl)} {ga n ca : Nat} {vals : List Value} {w : World} (h : AL w0 A (.slice (some ⟨ga, 0, none⟩) n ca) vals w) (hB : Below w0.heap.size w0 w) {k : Nat} (hk : k < A.length) (hl : A.length ≤ 1000) {Z : List Fl} {pz : Option Addr} {cz : Nat} (hZ : FM w0 pz Z ∨ FB w (.slice pz Z.length cz) Z) :
    ∃ g1 c1 w1, (Builtin.append_ #[31, 31] 31 #[.slice none 0 0, .slice (some ⟨ga, 0, none⟩) (k + 1) ca]).run Tryz.prog w = .ok (.slice (some ⟨g1, 0, none⟩) (k + 1) c1) w1 ∧
      ∃ g2 c2 w2, (Builtin.append_ #[31, 31] 31 #[.slice (some ⟨g1, 0, none⟩) (k + 1) c1, .slice (some ⟨w1.heap.size, 0, none⟩) 1 1]).run Tryz.prog (w1.alloc (.cells #[.slice pz Z.length cz] 22)) = .ok (.slice (some ⟨g2, 0, none⟩) (k + 2) c2) w2 ∧
        AL w0 (A.take (k + 1) ++ [Z]) (.slice (some ⟨g2, 0, none⟩) (k + 2) c2) (vals.take (k + 1) ++ [.slice pz Z.length cz]) w2 ∧ Below w.heap.size w w2 := by
  obtain ⟨i0, hi, hz0, hz1, hz2⟩ := info_parts info22
  have hmax : maxLen = 9223372036854775807 := rfl
  have hvl : vals.length = A.length := by have := h.own.1; omega
  have hone : ∀ u ∈ vals.take (k + 1), u.oneCell' = true := fun u hu => by
    obtain ⟨j, hj⟩ := List.mem_iff_getElem?.1 hu
    have hjk := (List.getElem?_eq_some_iff.1 hj).1
    rw [List.length_take] at hjk
    rw [List.getElem?_take_of_lt (by omega)] at hj
    obtain ⟨x, hx⟩ : ∃ x, A[j]? = some x := ⟨_, List.getElem?_eq_getElem (by omega)⟩
    obtain ⟨p, c, h1, -⟩ := h.each j x hx
    rw [hj] at h1
    injection h1 with h1
    subst h1
    rfl
  have hcell : ∀ j u, (vals.take (k + 1))[j]? = some u → w.cell? ((⟨ga, 0, none⟩ : Addr).add j) = some u := fun j u hu => by
    have hjk := (List.getElem?_eq_some_iff.1 hu).1
    rw [List.length_take] at hjk
    rw [List.getElem?_take_of_lt (by omega)] at hu
    obtain ⟨x, hx⟩ : ∃ x, A[j]? = some x := ⟨_, List.getElem?_eq_getElem (by omega)⟩
    obtain ⟨ga', ca', p, c, e, h1, -, -, -, -, h2⟩ := h.at hB hx
    injection e with e _ _
    injection e with e
    injection e with e
    subst e
    rw [hu] at h2
    injection h2 with h2
    subst h2
    rw [show (⟨ga, 0, none⟩ : Addr).add j = ⟨ga, j, none⟩ by unfold Addr.add; by_cases h : j = 0 <;> simp [h]]
    exact h1
  obtain ⟨g1, c1, w1, hr1, ho1, hg1, hat1, hlt1⟩ := run_append_lies (P := Tryz.prog) (w := w) 31 31 w.heap.size 22 i0 _ 1 24 Tryz.underlying31 hi hz0 hz1 hz2 rfl (by decide) (.slice none 0 0) 0 [] (World.ownsRow_nil _ _ _ _) ⟨ga, 0, none⟩ (k + 1) ca (vals.take (k + 1)) (by rw [List.length_take]; omega) hcell hone (by omega) (by omega) (by omega) (Nat.le_refl _) _ rfl
  rw [Nat.zero_add, List.nil_append] at ho1
  rw [Nat.zero_add] at hr1
  have hb1 : Below w.heap.size w w1 := (Below.refl _ w).grown hg1 (Nat.le_refl _) (fun k hk => by cases hk)
  have hb2 : Below w1.heap.size w1 (w1.alloc (.cells #[.slice pz Z.length cz] 22)) := (Below.refl _ _).alloc (Nat.le_refl _) _
  obtain ⟨g2, c2, w2, hr2, ho2, hg2, hat2, hlt2⟩ := run_append_lies (P := Tryz.prog) (w := w1.alloc (.cells #[.slice pz Z.length cz] 22)) 31 31 w.heap.size 22 i0 _ 1 24 Tryz.underlying31 hi hz0 hz1 hz2 rfl (by decide) (.slice (some ⟨g1, 0, none⟩) (k + 1) c1) (k + 1) (vals.take (k + 1)) (own_nextT ho1 hb2) ⟨w1.heap.size, 0, none⟩ 1 1 [.slice pz Z.length cz] rfl (World.news_of_block (heap_alloc_new w1 _)) (fun u hu => by
    have e : u = .slice pz Z.length cz := by simpa using hu
    subst e
    rfl) (by decide) (by omega) (by omega) (by have := hb1.size; simp; omega) _ rfl
  have hb3 : Below w.heap.size w w2 := (bnext hb1 hb2 hb1.size).grown hg2 (by have := hb1.size; simp; omega) (fun j hj => (own_nextT ho1 hb2).lt j hj |>.1)
  refine ⟨g1, c1, w1, hr1, g2, c2, w2, hr2, ⟨?_, fun i x hx => ?_⟩, hb3⟩
  · rw [List.length_append, List.length_take, Nat.min_eq_left (by omega)]
    exact own_base ho2 hB.size
  · by_cases hik : i < k + 1
    · rw [List.getElem?_append_left (by simp; omega), List.getElem?_take_of_lt hik] at hx
      rw [List.getElem?_append_left (by simp; omega), List.getElem?_take_of_lt hik]
      obtain ⟨p, c, h1, h2⟩ := h.each i x hx
      exact ⟨p, c, h1, h2.imp id (fun h => h.below hb3)⟩
    · have hi := (List.getElem?_eq_some_iff.1 hx).1
      simp at hi
      obtain rfl : i = k + 1 := by omega
      rw [List.getElem?_append_right (by simp; omega)] at hx
      rw [List.getElem?_append_right (by simp; omega)]
      have e0 : k + 1 - (A.take (k + 1)).length = 0 := by simp; omega
      have e1 : k + 1 - (vals.take (k + 1)).length = 0 := by simp; omega
      rw [e0] at hx
      rw [e1]
      have e : Z = x := by simpa using hx
      subst e
      exact ⟨pz, cz, rfl, hZ.imp id (fun h => h.below hb3)⟩
/-- Where the play stands: at a sheet of so many. -/
def RI (w0 : World) (bp i : Nat) (A : List (List Fl)) (k : Nat) (vA : Value) (w : World) : Prop :=
  ∃ st x vn vs vals, PL A st ∧ A[k]? = some x ∧ PS w bp x st k vn vs ∧ AL w0 A vA vals w ∧ A.length ≤ i ∧ Below w0.heap.size w0 w
/-- Numbers that were handed in. -/
def IM (w : World) (p : Option Addr) (is : List Int) : Prop := is = [] ∨ ∃ g o, p = some ⟨g, o, none⟩ ∧ g < w.heap.size ∧ ∀ i v, is[i]? = some v → w.cell? ⟨g, o + i, none⟩ = some (.int .i64 v)
theorem IM.at {w : World} {p : Option Addr} {is : List Int} (h : IM w p is) {i : Nat} {v : Int} (hi : is[i]? = some v) : ∃ g o, p = some ⟨g, o, none⟩ ∧ g < w.heap.size ∧ w.cell? ⟨g, o + i, none⟩ = some (.int .i64 v) := by
  rcases h with rfl | ⟨g, o, h1, h2, h3⟩
  · simp at hi
  · exact ⟨g, o, h1, h2, h3 i v hi⟩
end Go.Proofs.YtcekgefkimbfaaaGreatDoor.ps
/- Package past, Redo where nothing was undone; what a play's moves leave. The law's pieces: the end of a round, Undo, Redo. Conditions: as each theorem says. -/
namespace Go.Proofs.YtcekgefkimbfaaaGreatDoor.ps
open Go.RowKit
open adr (C)
set_option maxHeartbeats 1600000 in
theorem redo_no (bp : Nat) (xs : List Fl) (st : List St) (vn vs : Value) (w : World) (h : PS w bp xs st st.length vn vs) :
    Calls Tryz.prog 10 #[.pointer (some ⟨bp, 0, none⟩)] w fun e w' => e = .returned (.bool false) ∧ Below w.heap.size w w' := by
  obtain ⟨p, c, rfl, -⟩ := h.steps
  obtain ⟨c0, c1, c2⟩ := cells3 h.blk
  obtain ⟨n, hN⟩ : ∃ n, st.length = n := ⟨_, rfl⟩
  rw [hN] at c1 c2
  clear h
  go_enter Tryz.func10, Tryz.ntmps10
  go_wp2_with fail
  go_region
  all_goals
    go_wp2_with fail
    go_ret
    exact ⟨rfl, (Below.refl _ _).drew⟩
theorem ri_undo {w0 : World} {bp i : Nat} {A : List (List Fl)} {k : Nat} {vA : Value} {w : World} (h : RI w0 bp i A k vA w) (hbp : w0.heap.size ≤ bp) (hi : i ≤ 100) :
    Calls Tryz.prog 9 #[.pointer (some ⟨bp, 0, none⟩)] w fun e w' => e = .returned (.bool (decide (0 < k))) ∧ RI w0 bp i A (k - 1) vA w' := by
  obtain ⟨st, x, vn, vs, vals, hp, hx, hps, hal, hl, hB⟩ := h
  cases k with
  | zero =>
    refine (undo_no bp x st vn vs w hps).mono ?_
    rintro e w' ⟨rfl, rfl⟩
    exact ⟨rfl, st, x, vn, vs, vals, hp, hx, hps, hal, hl, hB⟩
  | succ k =>
    have hk := (List.getElem?_eq_some_iff.1 hx).1
    have hlen := hp.len
    obtain ⟨s, hs⟩ : ∃ s, st[k]? = some s := ⟨_, List.getElem?_eq_getElem (by omega)⟩
    obtain ⟨y, hy⟩ : ∃ y, A[k]? = some y := ⟨_, List.getElem?_eq_getElem (by omega)⟩
    obtain ⟨-, h2, h3, -⟩ := hp.step k s y x hs hy hx
    have hx2 := (hp.each x (List.mem_of_getElem? hx)).2
    refine (undo_yes bp x st k s vn vs w hps hs h3 (by omega) (by omega)).mono ?_
    rintro e w' ⟨rfl, ⟨vn', h4⟩, hk'⟩
    rw [h2] at h4
    exact ⟨by simp, st, y, vn', vs, vals, hp, hy, h4, hal.kp hk', hl, hB.trans (hk'.below.mono hbp)⟩
/-- Where one goes on to. -/
def goOn (k n : Nat) : Nat := if k + 1 < n then k + 1 else k
theorem ri_redo {w0 : World} {bp i : Nat} {A : List (List Fl)} {k : Nat} {vA : Value} {w : World} (h : RI w0 bp i A k vA w) (hbp : w0.heap.size ≤ bp) (hi : i ≤ 100) :
    Calls Tryz.prog 10 #[.pointer (some ⟨bp, 0, none⟩)] w fun e w' => e = .returned (.bool (decide (k + 1 < A.length))) ∧ RI w0 bp i A (goOn k A.length) vA w' := by
  obtain ⟨st, x, vn, vs, vals, hp, hx, hps, hal, hl, hB⟩ := h
  have hk := (List.getElem?_eq_some_iff.1 hx).1
  have hlen := hp.len
  by_cases hlt : k + 1 < A.length
  · obtain ⟨s, hs⟩ : ∃ s, st[k]? = some s := ⟨_, List.getElem?_eq_getElem (by omega)⟩
    obtain ⟨y, hy⟩ : ∃ y, A[k + 1]? = some y := ⟨_, List.getElem?_eq_getElem (by omega)⟩
    obtain ⟨h2, -, -, h3⟩ := hp.step k s x y hs hx hy
    have hx2 := (hp.each x (List.mem_of_getElem? hx)).2
    refine (redo_yes bp x st k s vn vs w hps hs h3 (by omega) (by omega)).mono ?_
    rintro e w' ⟨rfl, ⟨vn', h4⟩, hk'⟩
    rw [h2] at h4
    unfold goOn
    rw [if_pos hlt, decide_eq_true hlt]
    exact ⟨rfl, st, y, vn', vs, vals, hp, hy, h4, hal.kp hk', hl, hB.trans (hk'.below.mono hbp)⟩
  · have e : k = st.length := by omega
    subst e
    refine (redo_no bp x st vn vs w hps).mono ?_
    rintro e w' ⟨rfl, hb⟩
    unfold goOn
    rw [if_neg hlt, decide_eq_false hlt]
    exact ⟨rfl, st, x, vn, vs, vals, hp, hx, hps.next hb, hal.next hb, hl, bnext hB hb hB.size⟩
theorem RI.next {w0 : World} {bp i : Nat} {A : List (List Fl)} {k : Nat} {vA : Value} {w w' : World} (h : RI w0 bp i A k vA w) (hb : Below w.heap.size w w') : RI w0 bp i A k vA w' := by
  obtain ⟨st, x, vn, vs, vals, hp, hx, hps, hal, hl, hB⟩ := h
  exact ⟨st, x, vn, vs, vals, hp, hx, hps.next hb, hal.next hb, hl, bnext hB hb hB.size⟩
theorem shE {w : World} {p q : Option Addr} {c d : Nat} {xs : List Fl} (h1 : FM w p xs) (h2 : FM w q xs) (hl : xs.length ≤ 200) : Calls Tryz.prog 16 #[.slice p xs.length c, .slice q xs.length d] w fun e w' => e = .returned (.bool true) ∧ Below w.heap.size w w' :=
  (sheets_any p q c d xs xs w h1 h2 (by omega) (by omega)).mono (fun e w' ⟨⟨b, e1, e2⟩, e3⟩ => ⟨by rw [e1, e2.2 rfl], e3⟩)
noncomputable def tail54C : Code := ((Tryz.f3.body.bind (findTail 54)).getD .skip)
set_option maxRecDepth 1000000 in
set_option maxHeartbeats 8000000 in
theorem tail54 (Q : Exit → Act → World → Prop) (w0 : World) (bp i : Nat) (A : List (List Fl)) (k ga ca N : Nat) (HB : Hid (w0.heap.size ≤ bp ∧ i ≤ 100 ∧ A.length = N)) (hN : (N : Int) ≤ 100) (hkN : (k : Int) < (N : Int)) (hk0 : (0 : Int) ≤ (k : Int)) (hNc : (N : Int) ≤ (ca : Int)) (w : World) (HR : Hid (RI w0 bp i A k (.slice (some ⟨ga, 0, none⟩) N ca) w))
    (l0 l1 l2 l3 l4 l5 l6 l7 l9 l10 l13 l14 l15 l16 l17 l18 l19 l20 l21 l22 l23 l24 l25 l26 l27 l28 l29 l30 l31 l32 l33 l34 l35 l36 l37 l38 l39 l40 l41 l42 l43 l44 l45 l46 l47 l48 l49 l50 l51 l52 l53 l54 l55 l56 l57 l58 l59 l60 l61 l62 l63 l64 l65 l66 l67 l68 l69 l70 l71 l72 l73 l74 l75 l76 l77 l78 l79 l80 l81 l82 l83 l84 l85 l86 l87 l88 l89 l90 l91 l92 l93 l94 l95 l96 l97 l98 l99 l100 l101 l102 l103 l104 l105 l106 l107 l108 l109 l110 l111 l112 l113 l114 l115 l116 l117 l118 l119 l120 l121 l122 l123 l124 l125 l126 l127 l128 l129 l130 l131 l132 l133 l134 l135 l136 l137 l138 l139 l140 l141 l142 l143 l144 l145 l146 l147 l148 l149 l150 l151 l152 l153 l154 l155 l156 l157 l158 l159 l160 l161 l162 l163 l164 l165 l166 l167 l168 l169 l170 l171 l172 l173 l174 l175 l176 l177 l178 l179 l180 l181 l182 l183 l184 l185 l186 l187 l188 l189 l190 l191 l192 l193 l194 l195 l196 l197 l198 l199 l200 l201 l202 l203 l204 l205 l206 l207 l208 l209 l210 l211 l212 l213 l214 l215 l216 l217 l218 l219 l220 l221 l222 l223 l224 l225 l226 l227 l228 l229 l230 l231 l232 l233 l234 : Value)
    (HQ : Hid (∀ (m23 m24 m25 m26 m206 m207 m208 m209 m210 m211 m212 m213 m214 m215 m216 m217 m218 m219 m220 m221 m222 m223 m224 m225 m226 m227 m228 m229 m230 m231 m232 m233 m234 : Value) (w' : World), RI w0 bp i A k (.slice (some ⟨ga, 0, none⟩) N ca) w' → Q .normal ⟨#[l0, l1, l2, l3, l4, l5, l6, l7, .pointer (some ⟨bp, 0, none⟩), l9, l10, .slice (some ⟨ga, 0, none⟩) N ca, .int .i64 (k : Int), l13, l14, l15, l16, l17, l18, l19, l20, l21, l22, m23, m24, m25, m26, l27, l28, l29, l30, l31, l32, l33, l34, l35, l36, l37, l38, l39, l40, l41, l42, l43, l44, l45, l46, l47, l48, l49, l50, l51, l52, l53, l54, l55, l56, l57, l58, l59, l60, l61, l62, l63, l64, l65, l66, l67, l68, l69, l70, l71, l72, l73, l74, l75, l76, l77, l78, l79, l80, l81, l82, l83, l84, l85, l86, l87, l88, l89, l90, l91, l92, l93, l94, l95, l96, l97, l98, l99, l100, l101, l102, l103, l104, l105, l106, l107, l108, l109, l110, l111, l112, l113, l114, l115, l116, l117, l118, l119, l120, l121, l122, l123, l124, l125, l126, l127, l128, l129, l130, l131, l132, l133, l134, l135, l136, l137, l138, l139, l140, l141, l142, l143, l144, l145, l146, l147, l148, l149, l150, l151, l152, l153, l154, l155, l156, l157, l158, l159, l160, l161, l162, l163, l164, l165, l166, l167, l168, l169, l170, l171, l172, l173, l174, l175, l176, l177, l178, l179, l180, l181, l182, l183, l184, l185, l186, l187, l188, l189, l190, l191, l192, l193, l194, l195, l196, l197, l198, l199, l200, l201, l202, l203, l204, l205, m206, m207, m208, m209, m210, m211, m212, m213, m214, m215, m216, m217, m218, m219, m220, m221, m222, m223, m224, m225, m226, m227, m228, m229, m230, m231, m232, m233, m234], []⟩ w')) :
    Code.wp Tryz.prog tail54C Q ⟨#[l0, l1, l2, l3, l4, l5, l6, l7, .pointer (some ⟨bp, 0, none⟩), l9, l10, .slice (some ⟨ga, 0, none⟩) N ca, .int .i64 (k : Int), l13, l14, l15, l16, l17, l18, l19, l20, l21, l22, l23, l24, l25, l26, l27, l28, l29, l30, l31, l32, l33, l34, l35, l36, l37, l38, l39, l40, l41, l42, l43, l44, l45, l46, l47, l48, l49, l50, l51, l52, l53, l54, l55, l56, l57, l58, l59, l60, l61, l62, l63, l64, l65, l66, l67, l68, l69, l70, l71, l72, l73, l74, l75, l76, l77, l78, l79, l80, l81, l82, l83, l84, l85, l86, l87, l88, l89, l90, l91, l92, l93, l94, l95, l96, l97, l98, l99, l100, l101, l102, l103, l104, l105, l106, l107, l108, l109, l110, l111, l112, l113, l114, l115, l116, l117, l118, l119, l120, l121, l122, l123, l124, l125, l126, l127, l128, l129, l130, l131, l132, l133, l134, l135, l136, l137, l138, l139, l140, l141, l142, l143, l144, l145, l146, l147, l148, l149, l150, l151, l152, l153, l154, l155, l156, l157, l158, l159, l160, l161, l162, l163, l164, l165, l166, l167, l168, l169, l170, l171, l172, l173, l174, l175, l176, l177, l178, l179, l180, l181, l182, l183, l184, l185, l186, l187, l188, l189, l190, l191, l192, l193, l194, l195, l196, l197, l198, l199, l200, l201, l202, l203, l204, l205, l206, l207, l208, l209, l210, l211, l212, l213, l214, l215, l216, l217, l218, l219, l220, l221, l222, l223, l224, l225, l226, l227, l228, l229, l230, l231, l232, l233, l234], []⟩ w := by
  have _h0 := HB; have _h1 := hN; have _h2 := hkN; have _h3 := hk0; have _h4 := hNc
  clear _h0 _h1 _h2 _h3 _h4
  dsimp only at HQ ⊢
  conv => arg 2; whnf
  obtain ⟨st, x, vn, vs, vals, hp, hx, hps, hal, hl, hB⟩ := HR.out
  have hlen := hp.len
  have hx2 := (hp.each x (List.mem_of_getElem? hx)).2
  have HS : Hid (st.length + 1 = N) := by unfold Hid; rw [← HB.out.2.2, hlen]
  have HNow : Hid (Calls Tryz.prog 17 #[.pointer (some ⟨bp, 0, none⟩)] w fun e w' => (∃ v, e = .returned v ∧ FB w' v x) ∧ Below w.heap.size w w') := now_any bp x st k vn vs w hps (by omega)
  have HRn : Hid (∀ wx, Below w.heap.size w wx → RI w0 bp i A k (.slice (some ⟨ga, 0, none⟩) N ca) wx) := fun wx hb => HR.out.next hb
  have HAt : Hid (∀ wx, Below w.heap.size w wx → ∃ p c, wx.cell? ⟨ga, k, none⟩ = some (.slice p x.length c) ∧ FM wx p x) := fun wx hb => by
    obtain ⟨ga', ca', p, c, e, h1, h2, -⟩ := (hal.next hb).at (bnext hB hb hB.size) hx
    injection e with e _ _
    injection e with e
    injection e with e
    subst e
    exact ⟨p, c, h1, h2⟩
  have HDe : Hid (∀ wx, Below w.heap.size w wx → Calls Tryz.prog 18 #[.pointer (some ⟨bp, 0, none⟩)] wx fun e w' => e = .returned (.tuple #[.int .i64 k, .int .i64 ((N : Int) - 1 - k)]) ∧ Below wx.heap.size wx w') := fun wx hb => (depth_any bp x st k vn vs wx (hps.next hb) (by have := HS.out; omega) (by have := (List.getElem?_eq_some_iff.1 hx).1; omega)).mono (fun e w' ⟨e1, e2⟩ => ⟨by rw [e1, show (st.length : Int) = (N : Int) - 1 by have := HS.out; omega], e2⟩)
  have HXl : Hid (x.length ≤ 200) := hx2
  clear hp hx hps hal hl hB hlen hx2 HR
  go_wp2_with fail
  refine HNow.out.mono ?_
  rintro e w1 ⟨⟨v, rfl, hv⟩, hb1⟩
  obtain ⟨pa, cc, rfl, -⟩ := hv.full
  have HF : Hid (FM w1 pa x) := fb_fm hv
  obtain ⟨pb, cb, q0, hfb⟩ := HAt.out w1 hb1
  have HSh : Hid (Calls Tryz.prog 16 #[.slice pa x.length cc, .slice pb x.length cb] w1 fun e w' => e = .returned (.bool true) ∧ Below w1.heap.size w1 w') := shE HF.out hfb HXl.out
  have HB1 : Hid (Below w.heap.size w w1) := hb1
  clear hv hb1 hfb HNow HF HAt HXl
  obtain ⟨nx, hnx⟩ : ∃ nx, x.length = nx := ⟨_, rfl⟩
  rw [hnx] at q0 HSh ⊢
  clear hnx
  go_wp2_with fail
  refine HSh.out.mono ?_
  rintro e w2 ⟨rfl, hb2⟩
  have HB2 : Hid (Below w.heap.size w w2) := bnext HB1.out hb2 HB1.out.size
  clear hb2 HSh HB1 q0
  go_wp2_with fail
  refine (HDe.out _ HB2.out).mono ?_
  rintro e w3 ⟨rfl, hb3⟩
  have HB3 : Hid (Below w.heap.size w w3) := bnext HB2.out hb3 HB2.out.size
  clear hb3 HDe HB2
  go_wp2_with fail
  exact HQ.out _ _ _ _ _ _ _ _ _ _ _ _ _ _ _ _ _ _ _ _ _ _ _ _ _ _ _ _ _ _ _ _ _ w3 (HRn.out w3 HB3.out)
noncomputable def tail43U : Code := ((Tryz.f3.body.bind (findTail 43)).getD .skip)
set_option maxRecDepth 1000000 in
set_option maxHeartbeats 8000000 in
theorem armU (Q : Exit → Act → World → Prop) (w0 : World) (bp i : Nat) (A : List (List Fl)) (k : Nat) (vA : Value) (HB : Hid (w0.heap.size ≤ bp ∧ i ≤ 100)) (w : World) (HR : Hid (RI w0 bp i A k vA w)) (hk1 : (k : Int) ≤ 100)
    (l0 l1 l2 l3 l4 l5 l6 l7 l9 l10 l11 l13 l14 l15 l16 l17 l18 l19 l20 l21 l22 l23 l24 l25 l26 l27 l28 l29 l30 l31 l32 l33 l34 l35 l36 l37 l38 l39 l40 l41 l42 l43 l44 l45 l46 l47 l48 l49 l50 l51 l52 l53 l54 l55 l56 l57 l58 l59 l60 l61 l62 l63 l64 l65 l66 l67 l68 l69 l70 l71 l72 l73 l74 l75 l76 l77 l78 l79 l80 l81 l82 l83 l84 l85 l86 l87 l88 l89 l90 l91 l92 l93 l94 l95 l96 l97 l98 l99 l100 l101 l102 l103 l104 l105 l106 l107 l108 l109 l110 l111 l112 l113 l114 l115 l116 l117 l118 l119 l120 l121 l122 l123 l124 l125 l126 l127 l128 l129 l130 l131 l132 l133 l134 l135 l136 l137 l138 l139 l140 l141 l142 l143 l144 l145 l146 l147 l148 l149 l150 l151 l152 l153 l154 l155 l156 l157 l158 l159 l160 l161 l162 l163 l164 l165 l166 l167 l168 l169 l170 l171 l172 l173 l174 l175 l176 l177 l178 l179 l180 l181 l182 l183 l184 l185 l186 l187 l188 l189 l190 l191 l192 l193 l194 l195 l196 l197 l198 l199 l200 l201 l202 l203 l204 l205 l206 l207 l208 l209 l210 l211 l212 l213 l214 l215 l216 l217 l218 l219 l220 l221 l222 l223 l224 l225 l226 l227 l228 l229 l230 l231 l232 l233 l234 : Value)
    (HQ : Hid (∀ (m15 m178 m179 m180 m181 m182 m183 m184 m185 m186 m187 : Value) (w' : World), RI w0 bp i A (k - 1) vA w' → Q .normal ⟨#[l0, l1, l2, l3, l4, l5, l6, l7, .pointer (some ⟨bp, 0, none⟩), l9, l10, l11, .int .i64 ((k - 1 : Nat) : Int), l13, l14, m15, l16, l17, l18, l19, l20, l21, l22, l23, l24, l25, l26, l27, l28, l29, l30, l31, l32, l33, l34, l35, l36, l37, l38, l39, l40, l41, l42, l43, l44, l45, l46, l47, l48, l49, l50, l51, l52, l53, l54, l55, l56, l57, l58, l59, l60, l61, l62, l63, l64, l65, l66, l67, l68, l69, l70, l71, l72, l73, l74, l75, l76, l77, l78, l79, l80, l81, l82, l83, l84, l85, l86, l87, l88, l89, l90, l91, l92, l93, l94, l95, l96, l97, l98, l99, l100, l101, l102, l103, l104, l105, l106, l107, l108, l109, l110, l111, l112, l113, l114, l115, l116, l117, l118, l119, l120, l121, l122, l123, l124, l125, l126, l127, l128, l129, l130, l131, l132, l133, l134, l135, l136, l137, l138, l139, l140, l141, l142, l143, l144, l145, l146, l147, l148, l149, l150, l151, l152, l153, l154, l155, l156, l157, l158, l159, l160, l161, l162, l163, l164, l165, l166, l167, l168, l169, l170, l171, l172, l173, l174, l175, l176, l177, m178, m179, m180, m181, m182, m183, m184, m185, m186, m187, l188, l189, l190, l191, l192, l193, l194, l195, l196, l197, l198, l199, l200, l201, l202, l203, l204, l205, l206, l207, l208, l209, l210, l211, l212, l213, l214, l215, l216, l217, l218, l219, l220, l221, l222, l223, l224, l225, l226, l227, l228, l229, l230, l231, l232, l233, l234], []⟩ w')) :
    Code.wp Tryz.prog tail43U Q ⟨#[l0, l1, l2, l3, l4, l5, l6, l7, .pointer (some ⟨bp, 0, none⟩), l9, l10, l11, .int .i64 (k : Int), l13, l14, l15, l16, l17, l18, l19, l20, l21, l22, l23, l24, l25, l26, l27, l28, l29, l30, l31, l32, l33, l34, l35, l36, l37, l38, l39, l40, l41, l42, l43, l44, l45, l46, l47, l48, l49, l50, l51, l52, l53, l54, l55, l56, l57, l58, l59, l60, l61, l62, l63, l64, l65, l66, l67, l68, l69, l70, l71, l72, l73, l74, l75, l76, l77, l78, l79, l80, l81, l82, l83, l84, l85, l86, l87, l88, l89, l90, l91, l92, l93, l94, l95, l96, l97, l98, l99, l100, l101, l102, l103, l104, l105, l106, l107, l108, l109, l110, l111, l112, l113, l114, l115, l116, l117, l118, l119, l120, l121, l122, l123, l124, l125, l126, l127, l128, l129, l130, l131, l132, l133, l134, l135, l136, l137, l138, l139, l140, l141, l142, l143, l144, l145, l146, l147, l148, l149, l150, l151, l152, l153, l154, l155, l156, l157, l158, l159, l160, l161, l162, l163, l164, l165, l166, l167, l168, l169, l170, l171, l172, l173, l174, l175, l176, l177, l178, l179, l180, l181, l182, l183, l184, l185, l186, l187, l188, l189, l190, l191, l192, l193, l194, l195, l196, l197, l198, l199, l200, l201, l202, l203, l204, l205, l206, l207, l208, l209, l210, l211, l212, l213, l214, l215, l216, l217, l218, l219, l220, l221, l222, l223, l224, l225, l226, l227, l228, l229, l230, l231, l232, l233, l234], []⟩ w := by
  have _h0 := HB; have _h1 := hk1
  clear _h0 _h1
  dsimp only at HQ ⊢
  conv => arg 2; whnf
  have HU : Hid (Calls Tryz.prog 9 #[.pointer (some ⟨bp, 0, none⟩)] w fun e w' => e = .returned (.bool (decide (0 < k))) ∧ RI w0 bp i A (k - 1) vA w') := ri_undo HR.out HB.out.1 HB.out.2
  clear HR
  by_cases hk : 0 < k
  · have hk' : (0 : Int) < (k : Int) := by omega
    rw [decide_eq_true hk] at HU
    go_wp2_with fail
    refine HU.out.mono ?_
    rintro e w1 ⟨rfl, hr⟩
    have HR1 : Hid (RI w0 bp i A (k - 1) vA w1) := hr
    clear hr HU
    have e : ((k - 1 : Nat) : Int) = (k : Int) - 1 := by omega
    rw [e] at HQ
    clear e
    go_wp2_with fail
    exact HQ.out _ _ _ _ _ _ _ _ _ _ _ w1 HR1.out
  · have hk' : ¬ (0 : Int) < (k : Int) := by omega
    rw [decide_eq_false hk] at HU
    go_wp2_with fail
    refine HU.out.mono ?_
    rintro e w1 ⟨rfl, hr⟩
    have HR1 : Hid (RI w0 bp i A (k - 1) vA w1) := hr
    clear hr HU
    have e : ((k - 1 : Nat) : Int) = (k : Int) := by omega
    rw [e] at HQ
    clear e
    go_wp2_with fail
    exact HQ.out _ _ _ _ _ _ _ _ _ _ _ w1 HR1.out
noncomputable def tail49R : Code := ((Tryz.f3.body.bind (findTail 49)).getD .skip)
set_option maxRecDepth 1000000 in
set_option maxHeartbeats 8000000 in
theorem armR (Q : Exit → Act → World → Prop) (w0 : World) (bp i : Nat) (A : List (List Fl)) (k ga ca N : Nat) (HB : Hid (w0.heap.size ≤ bp ∧ i ≤ 100 ∧ A.length = N)) (hN : (N : Int) ≤ 100) (hkN : (k : Int) < (N : Int)) (hk0 : (0 : Int) ≤ (k : Int)) (hNc : (N : Int) ≤ (ca : Int)) (w : World) (HR : Hid (RI w0 bp i A k (.slice (some ⟨ga, 0, none⟩) N ca) w))
    (l0 l1 l2 l3 l4 l5 l6 l7 l9 l10 l13 l14 l15 l16 l17 l18 l19 l20 l21 l22 l23 l24 l25 l26 l27 l28 l29 l30 l31 l32 l33 l34 l35 l36 l37 l38 l39 l40 l41 l42 l43 l44 l45 l46 l47 l48 l49 l50 l51 l52 l53 l54 l55 l56 l57 l58 l59 l60 l61 l62 l63 l64 l65 l66 l67 l68 l69 l70 l71 l72 l73 l74 l75 l76 l77 l78 l79 l80 l81 l82 l83 l84 l85 l86 l87 l88 l89 l90 l91 l92 l93 l94 l95 l96 l97 l98 l99 l100 l101 l102 l103 l104 l105 l106 l107 l108 l109 l110 l111 l112 l113 l114 l115 l116 l117 l118 l119 l120 l121 l122 l123 l124 l125 l126 l127 l128 l129 l130 l131 l132 l133 l134 l135 l136 l137 l138 l139 l140 l141 l142 l143 l144 l145 l146 l147 l148 l149 l150 l151 l152 l153 l154 l155 l156 l157 l158 l159 l160 l161 l162 l163 l164 l165 l166 l167 l168 l169 l170 l171 l172 l173 l174 l175 l176 l177 l178 l179 l180 l181 l182 l183 l184 l185 l186 l187 l188 l189 l190 l191 l192 l193 l194 l195 l196 l197 l198 l199 l200 l201 l202 l203 l204 l205 l206 l207 l208 l209 l210 l211 l212 l213 l214 l215 l216 l217 l218 l219 l220 l221 l222 l223 l224 l225 l226 l227 l228 l229 l230 l231 l232 l233 l234 : Value)
    (HQ : Hid (∀ (m16 m190 m191 m192 m193 m194 m195 m196 m197 m198 m199 m200 m201 m202 m203 m204 m205 : Value) (w' : World), RI w0 bp i A (goOn k N) (.slice (some ⟨ga, 0, none⟩) N ca) w' → Q .normal ⟨#[l0, l1, l2, l3, l4, l5, l6, l7, .pointer (some ⟨bp, 0, none⟩), l9, l10, .slice (some ⟨ga, 0, none⟩) N ca, .int .i64 ((goOn k N : Nat) : Int), l13, l14, l15, m16, l17, l18, l19, l20, l21, l22, l23, l24, l25, l26, l27, l28, l29, l30, l31, l32, l33, l34, l35, l36, l37, l38, l39, l40, l41, l42, l43, l44, l45, l46, l47, l48, l49, l50, l51, l52, l53, l54, l55, l56, l57, l58, l59, l60, l61, l62, l63, l64, l65, l66, l67, l68, l69, l70, l71, l72, l73, l74, l75, l76, l77, l78, l79, l80, l81, l82, l83, l84, l85, l86, l87, l88, l89, l90, l91, l92, l93, l94, l95, l96, l97, l98, l99, l100, l101, l102, l103, l104, l105, l106, l107, l108, l109, l110, l111, l112, l113, l114, l115, l116, l117, l118, l119, l120, l121, l122, l123, l124, l125, l126, l127, l128, l129, l130, l131, l132, l133, l134, l135, l136, l137, l138, l139, l140, l141, l142, l143, l144, l145, l146, l147, l148, l149, l150, l151, l152, l153, l154, l155, l156, l157, l158, l159, l160, l161, l162, l163, l164, l165, l166, l167, l168, l169, l170, l171, l172, l173, l174, l175, l176, l177, l178, l179, l180, l181, l182, l183, l184, l185, l186, l187, l188, l189, m190, m191, m192, m193, m194, m195, m196, m197, m198, m199, m200, m201, m202, m203, m204, m205, l206, l207, l208, l209, l210, l211, l212, l213, l214, l215, l216, l217, l218, l219, l220, l221, l222, l223, l224, l225, l226, l227, l228, l229, l230, l231, l232, l233, l234], []⟩ w')) :
    Code.wp Tryz.prog tail49R Q ⟨#[l0, l1, l2, l3, l4, l5, l6, l7, .pointer (some ⟨bp, 0, none⟩), l9, l10, .slice (some ⟨ga, 0, none⟩) N ca, .int .i64 (k : Int), l13, l14, l15, l16, l17, l18, l19, l20, l21, l22, l23, l24, l25, l26, l27, l28, l29, l30, l31, l32, l33, l34, l35, l36, l37, l38, l39, l40, l41, l42, l43, l44, l45, l46, l47, l48, l49, l50, l51, l52, l53, l54, l55, l56, l57, l58, l59, l60, l61, l62, l63, l64, l65, l66, l67, l68, l69, l70, l71, l72, l73, l74, l75, l76, l77, l78, l79, l80, l81, l82, l83, l84, l85, l86, l87, l88, l89, l90, l91, l92, l93, l94, l95, l96, l97, l98, l99, l100, l101, l102, l103, l104, l105, l106, l107, l108, l109, l110, l111, l112, l113, l114, l115, l116, l117, l118, l119, l120, l121, l122, l123, l124, l125, l126, l127, l128, l129, l130, l131, l132, l133, l134, l135, l136, l137, l138, l139, l140, l141, l142, l143, l144, l145, l146, l147, l148, l149, l150, l151, l152, l153, l154, l155, l156, l157, l158, l159, l160, l161, l162, l163, l164, l165, l166, l167, l168, l169, l170, l171, l172, l173, l174, l175, l176, l177, l178, l179, l180, l181, l182, l183, l184, l185, l186, l187, l188, l189, l190, l191, l192, l193, l194, l195, l196, l197, l198, l199, l200, l201, l202, l203, l204, l205, l206, l207, l208, l209, l210, l211, l212, l213, l214, l215, l216, l217, l218, l219, l220, l221, l222, l223, l224, l225, l226, l227, l228, l229, l230, l231, l232, l233, l234], []⟩ w := by
  have _h0 := HB; have _h1 := hN; have _h2 := hkN; have _h3 := hk0; have _h4 := hNc
  clear _h0 _h1 _h2 _h3 _h4
  dsimp only at HQ ⊢
  conv => arg 2; whnf
  have HU : Hid (Calls Tryz.prog 10 #[.pointer (some ⟨bp, 0, none⟩)] w fun e w' => e = .returned (.bool (decide (k + 1 < N))) ∧ RI w0 bp i A (goOn k N) (.slice (some ⟨ga, 0, none⟩) N ca) w') := by
    have := ri_redo HR.out HB.out.1 HB.out.2.1
    rw [HB.out.2.2] at this
    exact this
  clear HR
  by_cases hk : k + 1 < N
  · have hk' : (k : Int) + 1 < (N : Int) := by omega
    rw [decide_eq_true hk] at HU
    go_wp2_with fail
    refine HU.out.mono ?_
    rintro e w1 ⟨rfl, hr⟩
    have HR1 : Hid (RI w0 bp i A (goOn k N) (.slice (some ⟨ga, 0, none⟩) N ca) w1) := hr
    clear hr HU
    have e : ((goOn k N : Nat) : Int) = (k : Int) + 1 := by unfold goOn; rw [if_pos hk]; rfl
    rw [e] at HQ
    clear e hk
    go_wp2_with fail
    exact HQ.out _ _ _ _ _ _ _ _ _ _ _ _ _ _ _ _ _ w1 HR1.out
  · have hk' : ¬ (k : Int) + 1 < (N : Int) := by omega
    rw [decide_eq_false hk] at HU
    go_wp2_with fail
    refine HU.out.mono ?_
    rintro e w1 ⟨rfl, hr⟩
    have HR1 : Hid (RI w0 bp i A (goOn k N) (.slice (some ⟨ga, 0, none⟩) N ca) w1) := hr
    clear hr HU
    have e : ((goOn k N : Nat) : Int) = (k : Int) := by unfold goOn; rw [if_neg hk]
    rw [e] at HQ
    clear e hk
    go_wp2_with fail
    exact HQ.out _ _ _ _ _ _ _ _ _ _ _ _ _ _ _ _ _ w1 HR1.out
end Go.Proofs.YtcekgefkimbfaaaGreatDoor.ps
/- The reference: a sheet in which one cell has another text. Conditions: as each theorem says. -/
namespace Go.Proofs.YtcekgefkimbfaaaGreatDoor.ps
open Go.RowKit
open adr (C isC ckc)
/-- What the reference makes of a row of cells: whether the text was put already is handed on. -/
def wR (f : Fl) : Bool → List Fl → List Fl
  | b, [] => if b = true then [] else [f]
  | b, x :: l => (if b = false ∧ lt x f.c f.r = false then [f] else []) ++ ((if at' x f.c f.r = true then [] else [x]) ++ wR f (b || !lt x f.c f.r) l)
theorem wR_rest {f : Fl} {l : List Fl} (h : ∀ y ∈ l, at' y f.c f.r = false) : wR f true l = l := by
  induction l with
  | nil => rfl
  | cons x l ih =>
    have h2 := h x (by simp)
    rw [wR, h2, Bool.true_or, ih (fun y hy => h y (by simp [hy]))]
    simp
theorem wR_wt (f : Fl) (l : List Fl) (h : Srt l) : wR f (decide (f.s.size = 0)) l = wt l f := by
  induction l with
  | nil =>
    rw [wR, wt, put]
    by_cases h0 : f.s.size = 0 <;> simp [h0]
  | cons x l ih =>
    obtain ⟨h1, h2⟩ := List.pairwise_cons.1 h
    have ih := ih h2
    rw [wR, wt]
    cases hl : lt x f.c f.r with
    | true =>
      have ha : at' x f.c f.r = false := by
        rw [at_no]
        have := lt_iff.1 hl
        omega
      simp only [ha, Bool.not_true, Bool.or_false, ih]
      simp
    | false =>
      have hr : ∀ y ∈ l, at' y f.c f.r = false := fun y hy => by
        have a := lt_iff.1 (h1 y hy)
        have b : ¬ lt x f.c f.r = true := by simp [hl]
        rw [lt_iff] at b
        rw [at_no]
        omega
      rw [Bool.not_false, Bool.or_true, wR_rest hr, put]
      by_cases h0 : f.s.size = 0
      · cases ha : at' x f.c f.r <;> simp [h0]
      · cases ha : at' x f.c f.r <;> simp [h0]
theorem neq34 (a b c d : Int) (W : World) : (binOp BinOp.neq 34 (.agg #[.int .i64 a, .int .i64 b]) (.agg #[.int .i64 c, .int .i64 d])).run Tryz.prog W = .ok (.bool (!(decide (a = c) && decide (b = d)))) W := by
  rw [run_neq_struct, show (10000 : Nat) = 9998 + 2 from rfl, eqIn30]; rfl
/-- What is at hand in a round: the new list, the box of the cell. -/
structure RW (w : World) (bc : Nat) (f : Fl) (v : Value) (ys : List Fl) (wx : World) : Prop where
  own : wx.ownsRow w.heap.size 36 3 v ys.length (flF ys)
  box : wx.heap[bc]? = some (.cells #[.int .i64 f.c, .int .i64 f.r] 34 (0, 0))
  below : Below w.heap.size w wx
theorem RW.next {w : World} {bc : Nat} {f : Fl} {v : Value} {ys : List Fl} {wx wy : World} (h : RW w bc f v ys wx) (hb : Below wx.heap.size wx wy) : RW w bc f v ys wy :=
  ⟨own_next h.own hb, (hb.block _ (fm.lt_blk h.box)).trans h.box, bnext h.below hb h.below.size⟩
theorem RW.one {w : World} {bc : Nat} {f : Fl} {v : Value} {ys : List Fl} {wx : World} (h : RW w bc f v ys wx) (hy : ys.length ≤ 100000) (y : Fl) :
    ∃ p n c w', (Builtin.append_ #[22, 22] 22 #[v, .slice (some ⟨wx.heap.size, 0, none⟩) 1 1]).run Tryz.prog (wx.alloc (.cells #[.int .i64 y.c, .int .i64 y.r, .string y.s] 36)) = .ok (.slice p n c) w' ∧ RW w bc f (.slice p n c) (ys ++ [y]) w' := by
  have h1 := h.next ((Below.refl _ _).alloc (Nat.le_refl _) (.cells #[.int .i64 y.c, .int .i64 y.r, .string y.s] 36))
  obtain ⟨v', w', r1, r2, r3, r4, r5, r6⟩ := app_any (wx.alloc (.cells #[.int .i64 y.c, .int .i64 y.r, .string y.s] 36)) w.heap.size h1.below.size v ys.length (flF ys) h1.own (some ⟨wx.heap.size, 0, none⟩) [y] 1 (fm_new wx y) (by simp; omega)
  have ho : w'.ownsRow w.heap.size 36 3 v' (ys ++ [y]).length (flF (ys ++ [y])) := by rw [flF_app, List.length_append]; exact r2
  have hne : v.ownBlock ≠ some bc := fun e => by
    rcases h1.own.2 with ⟨rfl, -⟩ | ⟨g, cap, cur, rfl, -, hg, -⟩
    · cases e
    · have e' : g = bc := by simpa [Value.ownBlock] using e
      rw [e', h1.box] at hg
      injection hg with hg
      injection hg with _ q
      exact absurd q (by decide)
  obtain ⟨p, c, rfl, -⟩ := FB.shape (own_base ho (Nat.zero_le _))
  exact ⟨p, _, c, w', r1, ho, (r4 bc (fm.lt_blk h1.box) hne).trans h1.box, h1.below.trans r3⟩
abbrev RO (w : World) (bc : Nat) (f : Fl) (v : Value) (ys : List Fl) (gx o : Nat) (x : Fl) (wx : World) : Prop :=
  wx.cell? ⟨gx, o, none⟩ = some (.int .i64 x.c) ∧ wx.cell? ⟨gx, o + 1, none⟩ = some (.int .i64 x.r) ∧ wx.cell? ⟨gx, o + 2, none⟩ = some (.string x.s) ∧ wx.cell? ⟨bc, 0, none⟩ = some (.int .i64 f.c) ∧ wx.cell? ⟨bc, 1, none⟩ = some (.int .i64 f.r) ∧ RW w bc f v ys wx
theorem ro_rw {w : World} {bc : Nat} {f : Fl} {v : Value} {ys : List Fl} {gx o : Nat} {x : Fl} {wx : World} (h : RO w bc f v ys gx o x wx) : RW w bc f v ys wx := h.2.2.2.2.2
theorem RW.opened {w : World} {bc : Nat} {f : Fl} {v : Value} {ys xs : List Fl} {gx ox i : Nat} {x : Fl} {wx : World} (h : RW w bc f v ys wx) (hx : FM w (some ⟨gx, ox, none⟩) xs) (hi : xs[i]? = some x) : RO w bc f v ys gx (ox + i * 3) x wx := by
  obtain ⟨q0, q1, q2⟩ := FM.cells (hx.below h.below) hi
  obtain ⟨b0, b1⟩ := cells2 h.box
  exact ⟨q0, q1, q2, b0, b1, h⟩
set_option maxRecDepth 100000 in
set_option maxHeartbeats 8000000 in
theorem rwith_any (p : Option Addr) (c : Nat) (xs : List Fl) (f : Fl) (w : World) (hx : FM w p xs) (hl : xs.length ≤ 3000) (hs : Srt xs) :
    Calls Tryz.prog 13 #[.slice p xs.length c, C f.c f.r, .string f.s] w fun e w' => (∃ v, e = .returned v ∧ FB w' v (wt xs f)) ∧ Below w.heap.size w w' := by
  have HA : Hid (∀ a b c d wx, Calls Tryz.prog 23 #[C a b, C c d] wx fun e w' => e = .returned (.bool (decide (cmpC a b c d < 0))) ∧ Below wx.heap.size wx w') := rahead_any
  obtain ⟨n, hn⟩ : ∃ n, xs.length = n := ⟨_, rfl⟩
  have HN : Hid (xs.length = n) := hn
  have HX : Hid (FM w p xs) := hx
  have hn3 : (n : Int) ≤ 3000 := by omega
  have hn3' : n ≤ 3000 := by omega
  obtain ⟨bc, hbc⟩ : ∃ bc, w.heap.size = bc := ⟨_, rfl⟩
  have HR0 : Hid (RW w bc f (.slice none 0 0) [] (w.alloc (.cells #[.int .i64 f.c, .int .i64 f.r] 34))) := ⟨⟨rfl, .inl ⟨rfl, rfl⟩⟩, by rw [← hbc]; exact heap_alloc_new _ _, (Below.refl _ _).alloc (Nat.le_refl _) _⟩
  have HW : Hid (wR f f.s.toList.isEmpty xs = wt xs f) := by
    have := wR_wt f xs hs
    cases h0 : f.s.toList.isEmpty with
    | true => rw [← this, decide_eq_true (emp_yes h0)]; rfl
    | false => rw [← this, decide_eq_false (emp_no h0)]; rfl
  rw [hn]
  clear hx hl hs hn
  obtain ⟨b0, hb0⟩ : ∃ b0, f.s.toList.isEmpty = b0 := ⟨_, rfl⟩
  rw [hb0] at HW
  go_enter Tryz.func13, Tryz.ntmps13
  go_wp2_with fail
  clear hb0 hbc
  generalize w.alloc (.cells #[.int .i64 f.c, .int .i64 f.r] 34) = W0 at *
  go_loopw [7, 8, 9] (fun s7 s8 s9 wr => ∃ (i mv cv : Nat) (b : Bool) (pv : Option Addr) (ys : List Fl), s9 = .int .i64 i ∧ s8 = .bool b ∧ s7 = .slice pv mv cv ∧ i ≤ n ∧ Hid (RW w bc f (.slice pv mv cv) ys wr ∧ ys ++ wR f b (xs.drop i) = wt xs f ∧ ys.length ≤ 2 * i)) (fun _ _ s9 _ => n - (intOf s9).toNat)
  case atStart => exact ⟨0, 0, 0, b0, none, [], rfl, rfl, rfl, Nat.zero_le _, ⟨HR0.out, by simpa using HW.out, by simp⟩⟩
  case round =>
    clear HR0
    obtain ⟨i, mv, cv, b, pv, ys, rfl, rfl, rfl, hin, HK⟩ := hrel
    have hi0 : (0 : Int) ≤ (i : Int) := by omega
    by_cases hlt : i < n
    · have hlt' : (i : Int) < (n : Int) := by omega
      obtain ⟨x, hx⟩ : ∃ x, xs[i]? = some x := ⟨_, List.getElem?_eq_getElem (by rw [HN.out]; exact hlt)⟩
      have HXi : Hid (xs[i]? = some x) := hx
      have HD : Hid (xs.drop i = x :: xs.drop (i + 1)) := by
        obtain ⟨h1, h2⟩ := List.getElem?_eq_some_iff.1 hx
        exact (List.drop_eq_getElem_cons h1).trans (by rw [h2])
      obtain ⟨gx, ox, rfl, hgx⟩ := HX.out.at hx
      have HO : Hid (∀ v ys wx, RW w bc f v ys wx → RO w bc f v ys gx (ox + i * 3) x wx) := fun v ys wx h => h.opened HX.out HXi.out
      clear hx
      have HW2 : Hid (ys ++ ((if b = false ∧ lt x f.c f.r = false then [f] else []) ++ ((if at' x f.c f.r = true then [] else [x]) ++ wR f (b || !lt x f.c f.r) (xs.drop (i + 1)))) = wt xs f) := by
        have := HK.out.2.1
        rw [HD.out, wR] at this
        exact this
      go_wp2_with fail
      go_cut [29] (fun s29 wx => s29 = .bool (!b && !lt x f.c f.r) ∧ RW w bc f (.slice pv mv cv) ys wx)
      case first =>
        cases b with
        | true =>
          go_quiet (fail)
          go_wp2_with fail
          go_meet
          case rel => exact ⟨rfl, HK.out.1.next (drewN_below _ _)⟩
        | false =>
          have h0d := HO.out _ _ _ (HK.out.1.next (Below.refl _ _).drew)
          obtain ⟨lb, hlb⟩ : ∃ lb, lt x f.c f.r = lb := ⟨_, rfl⟩
          have HLj : Hid (∀ wx, Calls Tryz.prog 23 #[C x.c x.r, C f.c f.r] wx fun e w' => e = .returned (.bool lb) ∧ Below wx.heap.size wx w') := fun wx => by have := HA.out x.c x.r f.c f.r wx; rw [show decide (cmpC x.c x.r f.c f.r < 0) = lb from hlb] at this; exact this
          have HLB : Hid (lt x f.c f.r = lb) := hlb
          clear hlb HW2
          go_region_held3 (fun wx => RO w bc f (.slice pv mv cv) ys gx (ox + i * 3) x wx) (first | exact h0d | assumption | exact HO.out _ _ _ ((ro_rw (by assumption)).next (by assumption))) (first | (go_at_call 23; refine (HLj.out _).mono ?_; rintro e w1 ⟨rfl, hb1⟩; have hw1 := (ro_rw (by assumption)).next hb1))
          all_goals
            go_wp2_with fail
            go_meet
            case rel => exact ⟨by rw [HLB.out]; simp, hw1⟩
      case rest =>
      obtain ⟨rfl, hw⟩ := hcut
      have HWc : Hid (RW w bc f (.slice pv mv cv) ys wc ∧ ys.length ≤ 2 * i) := ⟨hw, HK.out.2.2⟩
      clear hw HK
      go_upto_if 29 with fail
      go_cut [7, 8] (fun s7 s8 wx => ∃ (b' : Bool) (p' : Option Addr) (m' c' : Nat) (ys' : List Fl), s8 = .bool b' ∧ s7 = .slice p' m' c' ∧ RW w bc f (.slice p' m' c') ys' wx ∧ Hid (ys'.length ≤ 2 * i + 1 ∧ ys' ++ ((if at' x f.c f.r = true then [] else [x]) ++ wR f b' (xs.drop (i + 1))) = wt xs f))
      case first =>
        cases hb : (!b && !lt x f.c f.r) with
        | false =>
          have HE : Hid (ys ++ ((if at' x f.c f.r = true then [] else [x]) ++ wR f b (xs.drop (i + 1))) = wt xs f) := by
            have := HW2.out
            unfold Hid
            cases b with
            | true => simpa using this
            | false =>
              have hl : lt x f.c f.r = true := by simpa using hb
              rw [hl] at this
              simpa using this
          clear hb HW2
          go_wp2_with fail
          go_meet
          case rel => exact ⟨b, pv, mv, cv, ys, rfl, rfl, HWc.out.1, ⟨by have := HWc.out.2; omega, HE.out⟩⟩
        | true =>
          have HE : Hid (ys ++ [f] ++ ((if at' x f.c f.r = true then [] else [x]) ++ wR f true (xs.drop (i + 1))) = wt xs f) := by
            have := HW2.out
            unfold Hid
            simp at hb
            rw [hb.1, hb.2] at this
            simpa using this
          obtain ⟨y0, y1⟩ := cells2 HWc.out.1.box
          obtain ⟨p', m', c', w2, hr, hr2⟩ := HWc.out.1.one (by have := HWc.out.2; omega) f
          have HR : Hid ((Builtin.append_ #[22, 22] 22 #[.slice pv mv cv, .slice (some ⟨wc.heap.size, 0, none⟩) 1 1]).run Tryz.prog (wc.alloc (.cells #[.int .i64 f.c, .int .i64 f.r, .string f.s] 36)) = .ok (.slice p' m' c') w2) := hr
          have HR2 : Hid (RW w bc f (.slice p' m' c') (ys ++ [f]) w2) := hr2
          clear hb HW2 hr hr2
          go_wp2_with (first | (at_builtin; refine fm.wpList_append_eq rfl _ _ 22 rfl _ _ _ _ rfl rfl HR.out ?_))
          go_meet
          case rel => exact ⟨true, p', m', c', ys ++ [f], rfl, rfl, HR2.out, ⟨by have := HWc.out.2; simp; omega, HE.out⟩⟩
      case rest =>
      obtain ⟨b', p', m', c', ys', rfl, rfl, hw, HY⟩ := hcut
      have HWd : Hid (RW w bc f (.slice p' m' c') ys' wc) := hw
      clear hw HWc HW2
      obtain ⟨q0, q1, q2, y0, y1, -⟩ := HO.out _ _ _ HWd.out
      have e30 := fun W => neq34 x.c x.r f.c f.r W
      go_wp2_with fail
      go_cut [42] (fun s42 wx => s42 = .bool (!at' x f.c f.r) ∧ RW w bc f (.slice p' m' c') ys' wx)
      case first =>
        have HAt : Hid ((!decide (x.c = f.c) || !decide (x.r = f.r)) = !at' x f.c f.r) := by
          unfold Hid
          cases ha : at' x f.c f.r with
          | true => have := at_iff.1 ha; simp [this.1, this.2]
          | false =>
            have := at_no.1 ha
            by_cases h1 : x.c = f.c
            · have h2 : ¬ x.r = f.r := fun h => this ⟨h1, h⟩
              simp [h2]
            · simp [h1]
        go_region
        all_goals
          go_wp2_with fail
          go_meet
          case rel => exact ⟨by rw [HAt.out], HWd.out.next (Below.refl _ _).drew⟩
      case rest =>
      obtain ⟨rfl, hw⟩ := hcut
      have HWe : Hid (RW w bc f (.slice p' m' c') ys' wc) := hw
      clear hw HWd q0 q1 q2 y0 y1 e30
      cases ha : at' x f.c f.r with
      | true =>
        have HE : Hid (ys' ++ wR f b' (xs.drop (i + 1)) = wt xs f) := by have := HY.out.2; rw [ha] at this; unfold Hid; simpa using this
        clear ha
        go_wp2_with fail
        exact ⟨⟨i + 1, m', c', b', p', ys', rfl, rfl, rfl, hlt, ⟨HWe.out, HE.out, by have := HY.out.1; omega⟩⟩, by simp [intOf]; omega⟩
      | false =>
        have HE : Hid (ys' ++ [x] ++ wR f b' (xs.drop (i + 1)) = wt xs f) := by have := HY.out.2; rw [ha] at this; unfold Hid; simpa using this
        clear ha
        obtain ⟨q0, q1, q2, y0, y1, -⟩ := HO.out _ _ _ HWe.out
        obtain ⟨p2, m2, c2, w2, hr, hr2⟩ := HWe.out.one (by have := HY.out.1; omega) x
        have HR : Hid ((Builtin.append_ #[22, 22] 22 #[.slice p' m' c', .slice (some ⟨wc.heap.size, 0, none⟩) 1 1]).run Tryz.prog (wc.alloc (.cells #[.int .i64 x.c, .int .i64 x.r, .string x.s] 36)) = .ok (.slice p2 m2 c2) w2) := hr
        have HR2 : Hid (RW w bc f (.slice p2 m2 c2) (ys' ++ [x]) w2) := hr2
        clear hr hr2
        go_wp2_with (first | (at_builtin; refine fm.wpList_append_eq rfl _ _ 22 rfl _ _ _ _ rfl rfl HR.out ?_))
        exact ⟨⟨i + 1, m2, c2, b', p2, ys' ++ [x], rfl, rfl, rfl, hlt, ⟨HR2.out, HE.out, by have := HY.out.1; simp; omega⟩⟩, by simp [intOf]; omega⟩
    · have hlt' : ¬ (i : Int) < (n : Int) := by omega
      have HE : Hid (ys ++ wR f b [] = wt xs f) := by
        have := HK.out.2.1
        rw [List.drop_eq_nil_iff.2 (by rw [HN.out]; omega)] at this
        exact this
      cases b with
      | true =>
        have HE2 : Hid (FB wr (.slice pv mv cv) (wt xs f)) := by
          have := HE.out
          rw [wR] at this
          simp at this
          rw [← this]
          exact own_base HK.out.1.own (Nat.zero_le _)
        have HB : Hid (Below w.heap.size w wr) := HK.out.1.below
        clear HK HE
        go_wp2_with fail
        go_ret
        exact ⟨⟨_, rfl, HE2.out⟩, HB.out⟩
      | false =>
        obtain ⟨y0, y1⟩ := cells2 HK.out.1.box
        obtain ⟨p2, m2, c2, w2, hr, hr2⟩ := HK.out.1.one (by have := HK.out.2.2; omega) f
        have HR : Hid ((Builtin.append_ #[22, 22] 22 #[.slice pv mv cv, .slice (some ⟨wr.heap.size, 0, none⟩) 1 1]).run Tryz.prog (wr.alloc (.cells #[.int .i64 f.c, .int .i64 f.r, .string f.s] 36)) = .ok (.slice p2 m2 c2) w2) := hr
        have HE2 : Hid (FB w2 (.slice p2 m2 c2) (wt xs f) ∧ Below w.heap.size w w2) := by
          have := HE.out
          rw [wR] at this
          simp at this
          rw [← this]
          exact ⟨own_base hr2.own (Nat.zero_le _), hr2.below⟩
        clear HK HE hr hr2
        go_wp2_with (first | (at_builtin; refine fm.wpList_append_eq rfl _ _ 22 rfl _ _ _ _ rfl rfl HR.out ?_))
        go_ret
        exact ⟨⟨_, rfl, HE2.out.1⟩, HE2.out.2⟩
end Go.Proofs.YtcekgefkimbfaaaGreatDoor.ps
