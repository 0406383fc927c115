/- A sheet is what stands in its cells; a group's texts, all at once and one by one, and back again. Nothing is walked here. -/
import Derived.Test.YtcekgefkimbfaaaGreatDoorJh
import Derived.Test.YtcekgefkimbfaaaGreatDoorJi
namespace Go.Proofs.YtcekgefkimbfaaaGreatDoor.ps
theorem at_self (x : Fl) : at' x x.c x.r = true := at_iff.2 ⟨rfl, rfl⟩
theorem txt_cons_at {x : Fl} {l : List Fl} {c r : Int} (h : at' x c r = true) : txt (x :: l) c r = x.s := by show (if _ then _ else _) = _; rw [if_pos h]
theorem txt_cons_no {x : Fl} {l : List Fl} {c r : Int} (h : at' x c r = false) : txt (x :: l) c r = txt l c r := by show (if _ then _ else _) = _; rw [if_neg (by simp [h])]
theorem txt_ahead {x : Fl} {l : List Fl} (h : ∀ y ∈ l, lt x y.c y.r = true) : txt l x.c x.r = nul := txt_none (fun y hy => by
  have := h y hy
  rw [lt_iff] at this
  rw [at_no]
  omega)
theorem nul_size {s : ByteArray} (h : s.size ≠ 0) : s ≠ nul := fun e => h (by rw [e]; rfl)
theorem sheet_ext {a b : List Fl} (h1 : Srt a) (h2 : Ful a) (h3 : Srt b) (h4 : Ful b) (h : ∀ c r, txt a c r = txt b c r) : a = b := by
  induction a generalizing b with
  | nil =>
    cases b with
    | nil => rfl
    | cons y b =>
      have := h y.c y.r
      rw [txt_cons_at (at_self y)] at this
      exact absurd this.symm (nul_size (h4 y (by simp)))
  | cons x a ih =>
    cases b with
    | nil =>
      have := h x.c x.r
      rw [txt_cons_at (at_self x)] at this
      exact absurd this (nul_size (h2 x (by simp)))
    | cons y b =>
      have p1 := List.pairwise_cons.1 h1
      have p3 := List.pairwise_cons.1 h3
      by_cases e1 : lt x y.c y.r = true
      · have := h x.c x.r
        rw [txt_cons_at (at_self x), txt_ahead (fun z hz => by
          rcases List.mem_cons.1 hz with rfl | hz
          · exact e1
          · have := p3.1 z hz
            rw [lt_iff] at this e1 ⊢
            omega)] at this
        exact absurd this (nul_size (h2 x (by simp)))
      · by_cases e2 : lt y x.c x.r = true
        · have := h y.c y.r
          rw [txt_cons_at (at_self y), txt_ahead (l := x :: a) (fun z hz => by
            rcases List.mem_cons.1 hz with rfl | hz
            · exact e2
            · have := p1.1 z hz
              rw [lt_iff] at this e2 ⊢
              omega)] at this
          exact absurd this.symm (nul_size (h4 y (by simp)))
        · have ec : x.c = y.c ∧ x.r = y.r := by rw [lt_iff] at e1 e2; omega
          have hs := h x.c x.r
          rw [txt_cons_at (at_self x), txt_cons_at (at_iff.2 ⟨ec.1.symm, ec.2.symm⟩)] at hs
          have exy : x = y := by
            obtain ⟨xc, xr, xs⟩ := x
            obtain ⟨yc, yr, ys⟩ := y
            simp at ec hs
            rw [ec.1, ec.2, hs]
          subst exy
          rw [ih p1.2 (fun z hz => h2 z (by simp [hz])) p3.2 (fun z hz => h4 z (by simp [hz])) (fun c r => ?_)]
          cases hc : at' x c r with
          | true =>
            have := at_iff.1 hc
            rw [← this.1, ← this.2, txt_ahead p1.1, txt_ahead p3.1]
          | false => have := h c r; rwa [txt_cons_no hc, txt_cons_no hc] at this
theorem txt_put {f : Fl} {l : List Fl} (h : ∀ x ∈ l, at' x f.c f.r = false) (c r : Int) : txt (put f ++ l) c r = if at' f c r = true then f.s else txt l c r := by
  by_cases e : f.s.size = 0
  · rw [put_nul e, List.nil_append]
    split
    next hf =>
      have := at_iff.1 hf
      rw [← this.1, ← this.2, txt_none h, size_nul e]
    · rfl
  · rw [put_one e]; rfl
theorem txt_wt {l : List Fl} (hs : Srt l) (f : Fl) (c r : Int) : txt (wt l f) c r = if at' f c r = true then f.s else txt l c r := by
  induction l with
  | nil => have := txt_put (f := f) (l := []) (by simp) c r; rwa [List.append_nil] at this
  | cons x l ih =>
    have p := List.pairwise_cons.1 hs
    by_cases h1 : lt x f.c f.r = true
    · rw [show wt (x :: l) f = x :: wt l f by show (if _ then _ else _) = _; rw [if_pos h1]]
      cases hx : at' x c r with
      | true =>
        rw [txt_cons_at hx, txt_cons_at hx, if_neg]
        rw [at_iff] at hx ⊢
        rw [lt_iff] at h1
        omega
      | false => rw [txt_cons_no hx, txt_cons_no hx]; exact ih p.2
    · by_cases h2 : at' x f.c f.r = true
      · rw [show wt (x :: l) f = put f ++ l by show (if _ then _ else _) = _; rw [if_neg h1, if_pos h2]]
        have hx := at_iff.1 h2
        rw [txt_put (fun y hy => by
          have := p.1 y hy
          rw [lt_iff] at this
          rw [at_no]
          omega)]
        split
        · rfl
        next hf =>
          rw [txt_cons_no]
          rw [at_iff] at hf
          rw [at_no]
          omega
      · rw [show wt (x :: l) f = put f ++ x :: l by show (if _ then _ else _) = _; rw [if_neg h1, if_neg h2]]
        refine txt_put (fun y hy => ?_) c r
        rw [at_iff] at h2
        rw [lt_iff] at h1
        rw [at_no]
        rcases List.mem_cons.1 hy with rfl | hy
        · exact h2
        · have := p.1 y hy
          rw [lt_iff] at this
          omega
theorem wl_pass {fs : List Fl} {x : Fl} (h : ∀ g ∈ fs, lt x g.c g.r = true) (l : List Fl) : wl fs (x :: l) = x :: wl fs l := by
  cases fs with
  | nil => rfl
  | cons g gs =>
    have hx := h g (by simp)
    show (x :: l).takeWhile _ ++ put g ++ wl gs (cutH g ((x :: l).dropWhile _)) = x :: (l.takeWhile _ ++ put g ++ wl gs (cutH g (l.dropWhile _)))
    rw [List.takeWhile_cons_of_pos (p := fun x => lt x g.c g.r) hx, List.dropWhile_cons_of_pos (p := fun x => lt x g.c g.r) hx]
    rfl
theorem wl_passes {fs A : List Fl} (h : ∀ x ∈ A, ∀ g ∈ fs, lt x g.c g.r = true) (l : List Fl) : wl fs (A ++ l) = A ++ wl fs l := by
  induction A with
  | nil => rfl
  | cons x A ih => rw [List.cons_append, wl_pass (h x (by simp)), ih (fun y hy => h y (by simp [hy]))]; rfl
theorem cutH_in {f x : Fl} {l : List Fl} (h : x ∈ cutH f l) : x ∈ l := by
  cases l with
  | nil => exact h
  | cons y l =>
    have h' : x ∈ (if at' y f.c f.r = true then l else y :: l) := h
    split at h'
    · simp [h']
    · exact h'
theorem wl_in {o xs : List Fl} {x : Fl} (h : x ∈ wl o xs) : x ∈ xs ∨ x ∈ o := by
  induction o generalizing xs with
  | nil => exact .inl h
  | cons f o ih =>
    have h' : x ∈ xs.takeWhile (fun x => lt x f.c f.r) ++ put f ++ wl o (cutH f (xs.dropWhile (fun x => lt x f.c f.r))) := h
    rw [List.mem_append, List.mem_append] at h'
    rcases h' with (h' | h') | h'
    · exact .inl (List.takeWhile_subset _ h')
    · exact .inr (by rw [(put_in h').1]; simp)
    · rcases ih h' with h' | h'
      · exact .inl (List.dropWhile_subset _ (cutH_in h'))
      · exact .inr (by simp [h'])
theorem wt_front {l : List Fl} {f : Fl} (h : ∀ x ∈ l, lt f x.c x.r = true) : wt l f = put f ++ l := by
  cases l with
  | nil => show put f = _; rw [List.append_nil]
  | cons x l =>
    have := h x (by simp)
    rw [lt_iff] at this
    show (if _ then _ else if _ then _ else _) = _
    rw [if_neg (by rw [lt_iff]; omega), if_neg (by rw [at_iff]; omega)]
theorem wt_passes {A l : List Fl} {f : Fl} (h : ∀ x ∈ A, lt x f.c f.r = true) : wt (A ++ l) f = A ++ wt l f := by
  induction A with
  | nil => rfl
  | cons x A ih =>
    rw [List.cons_append]
    show (if _ then _ else _) = _
    rw [if_pos (h x (by simp)), ih (fun y hy => h y (by simp [hy]))]
    rfl
theorem takeW_all {p : Fl → Bool} {l : List Fl} {x : Fl} (h : x ∈ l.takeWhile p) : p x = true := by
  induction l with
  | nil => simp at h
  | cons y l ih =>
    rw [List.takeWhile_cons] at h
    split at h
    · rcases List.mem_cons.1 h with rfl | h
      · assumption
      · exact ih h
    · simp at h
theorem dropW_head {p : Fl → Bool} {l t : List Fl} {x : Fl} (h : l.dropWhile p = x :: t) : p x = false := by
  induction l with
  | nil => simp at h
  | cons y l ih =>
    rw [List.dropWhile_cons] at h
    split at h
    · exact ih h
    next hn => injection h with h1 h2; subst h1; exact Bool.eq_false_iff.2 hn
theorem wl_wt {xs fs : List Fl} {f : Fl} (hx : Srt xs) (ho : Srt (f :: fs)) : wl (f :: fs) xs = wt (wl fs xs) f := by
  have po := List.pairwise_cons.1 ho
  show xs.takeWhile _ ++ put f ++ wl fs (cutH f (xs.dropWhile _)) = _
  have hA : ∀ x ∈ xs.takeWhile (fun x => lt x f.c f.r), lt x f.c f.r = true := fun x hx => takeW_all (p := fun x => lt x f.c f.r) hx
  have e : xs = xs.takeWhile (fun x => lt x f.c f.r) ++ xs.dropWhile (fun x => lt x f.c f.r) := (List.takeWhile_append_dropWhile).symm
  have hD : Srt (xs.dropWhile (fun x => lt x f.c f.r)) := List.Pairwise.sublist (List.dropWhile_sublist _) hx
  have hH : ∀ x t, xs.dropWhile (fun x => lt x f.c f.r) = x :: t → lt x f.c f.r = false := fun x t h => dropW_head (p := fun x => lt x f.c f.r) h
  generalize xs.takeWhile (fun x => lt x f.c f.r) = A at *
  generalize xs.dropWhile (fun x => lt x f.c f.r) = D at *
  subst e
  rw [wl_passes (fun x hx g hg => by
    have h1 := hA x hx
    have h2 := po.1 g hg
    rw [lt_iff] at h1 h2 ⊢
    omega), wt_passes hA, List.append_assoc]
  congr 1
  cases D with
  | nil =>
    rw [wt_front (fun x hx => by
      rcases wl_in hx with hx | hx
      · simp at hx
      · exact po.1 x hx)]
    rfl
  | cons x l =>
    have hx0 := hH x l rfl
    have pD := List.pairwise_cons.1 hD
    by_cases h2 : at' x f.c f.r = true
    · have hc := at_iff.1 h2
      rw [wl_pass (fun g hg => by have := po.1 g hg; rw [lt_iff] at this ⊢; omega)]
      show put f ++ wl fs (if _ then _ else _) = (if _ then _ else if _ then _ else _)
      rw [if_pos h2, if_neg (by rw [hx0]; simp), if_pos h2]
    · show put f ++ wl fs (if _ then _ else _) = _
      rw [if_neg h2, wt_front]
      intro y hy
      rw [lt_no] at hx0
      rw [at_iff] at h2
      have hfx : lt f x.c x.r = true := by rw [lt_iff]; omega
      rcases wl_in hy with hy | hy
      · rcases List.mem_cons.1 hy with rfl | hy
        · exact hfx
        · have := pD.1 y hy
          rw [lt_iff] at this hfx ⊢
          omega
      · exact po.1 y hy
theorem wl_fold {xs o : List Fl} (hx : Srt xs) (ho : Srt o) : wl o xs = o.foldr (fun f l => wt l f) xs := by
  induction o with
  | nil => rfl
  | cons f o ih => rw [wl_wt hx ho, ih (List.pairwise_cons.1 ho).2]; rfl
theorem foldw_srt {xs : List Fl} (hx : Srt xs) (o : List Fl) : Srt (o.foldr (fun f l => wt l f) xs) := by
  induction o with
  | nil => exact hx
  | cons f o ih => exact wt_srt ih f
theorem foldw_ful {xs : List Fl} (hx : Ful xs) (o : List Fl) : Ful (o.foldr (fun f l => wt l f) xs) := by
  induction o with
  | nil => exact hx
  | cons f o ih => exact wt_ful ih f
/-- The text of a cell behind some: the first of the list tells. -/
def tell (o xs : List Fl) (c r : Int) : ByteArray := match o.find? (fun x => at' x c r) with
  | some f => f.s
  | none => txt xs c r
theorem txt_fold {xs : List Fl} (hx : Srt xs) (o : List Fl) (c r : Int) : txt (o.foldr (fun f l => wt l f) xs) c r = tell o xs c r := by
  induction o with
  | nil => rfl
  | cons f o ih =>
    show txt (wt _ f) c r = _
    rw [txt_wt (foldw_srt hx o), ih]
    unfold tell
    rw [List.find?_cons]
    cases at' f c r <;> simp
theorem fnd_at {l : List Fl} {c r : Int} {f : Fl} (h : l.find? (fun x => at' x c r) = some f) : at' f c r = true := List.find?_some (p := fun x => at' x c r) h
theorem LastO.one {l o : List Fl} (h : LastO l o) {f g : Fl} {c r : Int} (hf : l.reverse.find? (fun x => at' x c r) = some f) (hg : g ∈ o) (hc : at' g c r = true) : g = f := by
  have h1 := (h.2 g).1 hg
  have h2 := at_iff.1 hc
  rw [h2.1, h2.2, hf] at h1
  injection h1 with h1
  exact h1.symm
theorem stB_in {xs o : List Fl} {f : Fl} : f ∈ stB xs o ↔ f ∈ o ∧ chg xs f = true := List.mem_filter
theorem chg_no {xs : List Fl} {f : Fl} (h : chg xs f = false) : txt xs f.c f.r = f.s := by
  unfold chg at h
  exact bytes_eq (by simpa using h)
theorem tell_last {xs l o : List Fl} (h : LastO l o) (c r : Int) : tell (stB xs o) xs c r = tell l.reverse xs c r := by
  unfold tell
  cases hL : l.reverse.find? (fun x => at' x c r) with
  | none =>
    cases hS : (stB xs o).find? (fun x => at' x c r) with
    | none => rfl
    | some g =>
      have h1 := (h.2 g).1 (stB_in.1 (List.mem_of_find?_eq_some hS)).1
      have h2 := at_iff.1 (fnd_at hS)
      rw [h2.1, h2.2, hL] at h1
      cases h1
  | some f =>
    have hfc := at_iff.1 (fnd_at hL)
    cases hS : (stB xs o).find? (fun x => at' x c r) with
    | some g => rw [h.one hL (stB_in.1 (List.mem_of_find?_eq_some hS)).1 (fnd_at hS)]
    | none =>
      have hfo : f ∈ o := (h.2 f).2 (by rw [hfc.1, hfc.2]; exact hL)
      cases hc : chg xs f with
      | false => have := chg_no hc; rw [hfc.1, hfc.2] at this; exact this
      | true =>
        have := List.find?_eq_none.1 hS f (stB_in.2 ⟨hfo, hc⟩)
        exact absurd (at_iff.2 hfc) this
theorem stB_srt {xs o : List Fl} (h : Srt o) : Srt (stB xs o) := List.Pairwise.filter _ h
theorem stA_srt {xs o : List Fl} (h : Srt o) : Srt (stA xs o) := by
  unfold stA Srt
  rw [List.pairwise_map]
  exact stB_srt h
/-- All at once is one by one. -/
theorem group_all {xs l o : List Fl} (h : LastO l o) (hx : Srt xs) (hf : Ful xs) : wl (stB xs o) xs = l.foldl wt xs := by
  rw [wl_fold hx (stB_srt h.1), List.foldl_eq_foldr_reverse]
  exact sheet_ext (foldw_srt hx _) (foldw_ful hf _) (foldw_srt hx _) (foldw_ful hf _) (fun c r => by rw [txt_fold hx, txt_fold hx, tell_last h])
/-- And back again. -/
theorem group_back {xs o : List Fl} (ho : Srt o) (hx : Srt xs) (hf : Ful xs) : wl (stA xs o) (wl (stB xs o) xs) = xs := by
  rw [wl_fold hx (stB_srt ho), wl_fold (foldw_srt hx _) (stA_srt ho)]
  refine sheet_ext (foldw_srt (foldw_srt hx _) _) (foldw_ful (foldw_ful hf _) _) hx hf (fun c r => ?_)
  rw [txt_fold (foldw_srt hx _)]
  unfold tell
  cases hS : (stA xs o).find? (fun x => at' x c r) with
  | some g =>
    obtain ⟨f, -, rfl⟩ := List.mem_map.1 (List.mem_of_find?_eq_some hS)
    have := at_iff.1 (fnd_at hS)
    show txt xs f.c f.r = _
    rw [show f.c = c from this.1, show f.r = r from this.2]
  | none =>
    show txt _ c r = _
    rw [txt_fold hx]
    unfold tell
    cases hB : (stB xs o).find? (fun x => at' x c r) with
    | none => rfl
    | some g =>
      have h1 := List.find?_eq_none.1 hS (was xs g) (List.mem_map.2 ⟨g, List.mem_of_find?_eq_some hB, rfl⟩)
      have h2 := fnd_at hB
      exact absurd h2 h1
end Go.Proofs.YtcekgefkimbfaaaGreatDoor.ps
/- Package sheet's Check of one text, exactly; past.New. Conditions: as each theorem says. -/
namespace Go.Proofs.YtcekgefkimbfaaaGreatDoor.ps
open Go.RowKit
open adr (C isC ckc)
/-- What Check says of a cell with its text: a number that there is one of. -/
def SCk (f : Fl) (n : Int) : Prop := (f.s.size = 0 ∧ n = if isC f.c f.r = true then 0 else 1) ∨ (f.s.size ≠ 0 ∧ Told [f] n)
theorem SCk.one {f : Fl} {n m : Int} (h : SCk f n) (h' : SCk f m) : n = m := by
  rcases h with ⟨h1, h2⟩ | ⟨h1, h2⟩
  · rcases h' with ⟨g1, g2⟩ | ⟨g1, g2⟩
    · rw [h2, g2]
    · exact absurd h1 g1
  · rcases h' with ⟨g1, g2⟩ | ⟨g1, g2⟩
    · exact absurd g1 h1
    · exact h2.one g2
set_option maxHeartbeats 1600000 in
theorem scheck_any (f : Fl) (w : World) (hE : EnvP w) :
    Calls Tryz.prog 29 #[C f.c f.r, .string f.s] w fun e w' => (∃ t, e = .returned (errV t) ∧ SCk f t) ∧ Below w.heap.size w w' := by
  have hb0 : Below w.heap.size w (w.alloc (.cells #[.int .i64 f.c, .int .i64 f.r] 34)) := (Below.refl _ _).alloc (Nat.le_refl _) _
  have hb1 : Below w.heap.size w ((w.alloc (.cells #[.int .i64 f.c, .int .i64 f.r] 34)).alloc (.cells #[.int .i64 f.c, .int .i64 f.r, .string f.s] 36)) := hb0.alloc (by simp) _
  cases h0 : f.s.toList.isEmpty with
  | true =>
    have HE0 : Hid (f.s.size = 0) := emp_yes h0
    have HC : Hid (Calls Tryz.prog 47 #[C f.c f.r] (w.alloc (.cells #[.int .i64 f.c, .int .i64 f.r] 34)) fun e w' => (∃ v, e = .returned v ∧ ∃ t, v = errV t ∧ SCk f t) ∧ Below w.heap.size w w') := (adr.check_any f.c f.r _).mono (fun e w' ⟨e1, e2⟩ => ⟨⟨_, e1, if isC f.c f.r = true then 0 else 1, by cases isC f.c f.r <;> rfl, .inl ⟨HE0.out, rfl⟩⟩, bnext hb0 e2 hb0.size⟩)
    clear hE hb0 hb1
    go_enter Tryz.func29, Tryz.ntmps29
    go_wp2_with fail
    refine HC.out.mono ?_
    rintro e w1 ⟨⟨v, rfl, hv⟩, hb⟩
    go_wp2_with fail
    go_ret
    obtain ⟨t, rfl, ht⟩ := hv
    exact ⟨⟨t, rfl, ht⟩, hb⟩
  | false =>
    have HE0 : Hid (f.s.size ≠ 0) := emp_no h0
    have HC : Hid (Calls Tryz.prog 24 #[.slice (some ⟨w.heap.size + 1, 0, none⟩) 1 1] ((w.alloc (.cells #[.int .i64 f.c, .int .i64 f.r] 34)).alloc (.cells #[.int .i64 f.c, .int .i64 f.r, .string f.s] 36)) fun e w' => (∃ v, e = .returned v ∧ ∃ t, v = errV t ∧ SCk f t) ∧ Below w.heap.size w w') := (gcheck_any (some ⟨w.heap.size + 1, 0, none⟩) 1 [f] _ (by have := fm_new (w.alloc (.cells #[.int .i64 f.c, .int .i64 f.r] 34)) f; simpa using this) (hE.below hb1 hE.size)).mono (fun e w' ⟨⟨t, e1, e2⟩, e3⟩ => ⟨⟨_, e1, t, rfl, .inr ⟨HE0.out, e2⟩⟩, bnext hb1 e3 hb1.size⟩)
    clear hE hb0 hb1
    go_enter Tryz.func29, Tryz.ntmps29
    go_wp2_with fail
    refine HC.out.mono ?_
    rintro e w1 ⟨⟨v, rfl, hv⟩, hb⟩
    go_wp2_with fail
    go_ret
    obtain ⟨t, rfl, ht⟩ := hv
    exact ⟨⟨t, rfl, ht⟩, hb⟩
/-- What New answers. -/
def NW (w : World) (xs : List Fl) (t : Int) (ptr : Value) (w' : World) : Prop := (t ≠ 0 ∧ ptr = .pointer none) ∨ (t = 0 ∧ ∃ bp vn, ptr = .pointer (some ⟨bp, 0, none⟩) ∧ w.heap.size ≤ bp ∧ PS w' bp xs [] 0 vn (.slice none 0 0))
theorem Told.le {xs : List Fl} (h : Told xs 0) : xs.length ≤ 200 := by
  rcases h with ⟨h1, h2⟩ | ⟨h1, h2⟩
  · exact absurd h2 (by decide)
  · exact h1
set_option maxHeartbeats 1600000 in
theorem new_any (p : Option Addr) (c : Nat) (xs : List Fl) (w : World) (hx : FM w p xs) (hE : EnvP w) (hc : p = none → c = 0) :
    Calls Tryz.prog 7 #[.slice p xs.length c] w fun e w' => (∃ ptr t, e = .returned (.tuple #[ptr, errV t]) ∧ Told xs t ∧ NW w xs t ptr w') ∧ Below w.heap.size w w' := by
  have H : Hid (Calls Tryz.prog 24 #[.slice p xs.length c] w fun e w' => (∃ t, e = .returned (errV t) ∧ Told xs t) ∧ Below w.heap.size w w') := gcheck_any p c xs w hx hE
  have HX : Hid (FM w p xs) := hx
  clear hx hE
  go_enter Tryz.func7, Tryz.ntmps7
  go_wp2_with fail
  refine H.out.mono ?_
  rintro e w1 ⟨⟨t, rfl, hT⟩, hb⟩
  have HB : Hid (Below w.heap.size w w1 ∧ Told xs t) := ⟨hb, hT⟩
  clear hb
  by_cases h0 : t = 0
  · subst h0
    have HC : Hid (Calls Tryz.prog 25 #[.slice p xs.length c] w1 fun e w' => (∃ v, e = .returned v ∧ w'.ownsRow w1.heap.size 36 3 v xs.length (flF xs)) ∧ Below w1.heap.size w1 w') := clone_any p c xs w1 (HX.out.below HB.out.1) (by have := hT.le; omega) hc
    clear hT
    rw [errV_zero]
    go_wp2_with fail
    refine HC.out.mono ?_
    rintro e w2 ⟨⟨v, rfl, ho⟩, hb2⟩
    have hF : FB w2 v xs := own_base ho (Nat.zero_le _)
    obtain ⟨pv, cv, rfl, -⟩ := hF.full
    have HF : Hid (FB w2 (.slice pv xs.length cv) xs ∧ Below w.heap.size w w2) := ⟨hF, bnext HB.out.1 hb2 HB.out.1.size⟩
    clear ho hF hb2
    go_wp2_with fail
    refine bodyPost_ret (v := .tuple #[.pointer (some ⟨w2.heap.size, 0, none⟩), .nilIface]) (by simp [results, Tryz.results7, go_sem]) rfl ⟨⟨_, 0, rfl, HB.out.2, .inr ⟨rfl, _, .slice pv xs.length cv, rfl, HF.out.2.size, ?_⟩⟩, HF.out.2.alloc HF.out.2.size _⟩
    exact ⟨heap_alloc_new _ _, HF.out.1.below ((Below.refl _ _).alloc (Nat.le_refl _) _), ⟨rfl, .inl ⟨rfl, rfl⟩⟩, fun s hs => by cases hs⟩
  · have H0 : Hid (t ≠ 0) := h0
    have HV := errV_some h0
    rw [HV]
    clear hT h0
    go_wp2_with fail
    exact bodyPost_ret (v := .tuple #[.pointer none, .iface 59 (.int .i64 t)]) (by simp [results, Tryz.results7, go_sem]) rfl ⟨⟨_, t, by rw [HV], HB.out.2, .inl ⟨H0.out, rfl⟩⟩, HB.out.1⟩
end Go.Proofs.YtcekgefkimbfaaaGreatDoor.ps
/- Package past: a group of texts. Conditions: as each theorem says. -/
namespace Go.Proofs.YtcekgefkimbfaaaGreatDoor.ps
open Go.RowKit
open adr (C)
abbrev GS (wr : World) (bp : Nat) (u : Value) (wx : World) : Prop := wx.cell? ⟨bp, 0, none⟩ = some u ∧ Below wr.heap.size wr wx
theorem gsb {wr : World} {bp : Nat} {u : Value} {wx : World} (h : GS wr bp u wx) : Below wr.heap.size wr wx := h.2
abbrev Z2 : Array Value := #[.slice none 0 0, .slice none 0 0]
/-- What a step of some texts is. -/
def Sp (xs l : List Fl) (w : World) (va vb : Value) : Prop := ∃ o, LastO l o ∧ o.length ≤ 3000 ∧ FB w va (stA xs o) ∧ FB w vb (stB xs o)
theorem Sp.form {xs l : List Fl} {w : World} {va vb : Value} (h : Sp xs l w va vb) : (∃ p n c, va = .slice p n c) ∧ ∃ p n c, vb = .slice p n c := by
  obtain ⟨o, -, -, h1, h2⟩ := h
  obtain ⟨_, _, rfl, -⟩ := h1.shape
  obtain ⟨_, _, rfl, -⟩ := h2.shape
  exact ⟨⟨_, _, _, rfl⟩, _, _, _, rfl⟩
theorem Sp.kp {bp : Nat} {xs l : List Fl} {w w' : World} {va vb : Value} (h : Sp xs l w va vb) (hk : KP bp w w') : Sp xs l w' va vb := by
  obtain ⟨o, a1, a2, h1, h2⟩ := h
  exact ⟨o, a1, a2, h1.kp hk, h2.kp hk⟩
/-- Two stores into a block of a step. -/
theorem set2 {w : World} {b : Nat} {a0 a1 u0 u1 : Value} {xs l : List Fl} (h : w.heap[b]? = some (.cells #[a0, a1] 63 (0, 0))) (hs : Sp xs l w u0 u1) : ((w.setCell ⟨b, 0, none⟩ u0).setCell ⟨b, 1, none⟩ u1).heap[b]? = some (.cells #[u0, u1] 63 (0, 0)) ∧ Sp xs l ((w.setCell ⟨b, 0, none⟩ u0).setCell ⟨b, 1, none⟩ u1) u0 u1 := by
  have h0 : (w.setCell ⟨b, 0, none⟩ u0).heap[b]? = some (.cells #[u0, a1] 63 (0, 0)) := by rw [fm.blk_set h]; rfl
  have h1 : ((w.setCell ⟨b, 0, none⟩ u0).setCell ⟨b, 1, none⟩ u1).heap[b]? = some (.cells #[u0, u1] 63 (0, 0)) := by rw [fm.blk_set h0]; rfl
  exact ⟨h1, (hs.kp (KP.set (bp := b) h (by decide) (Nat.le_refl _) u0)).kp (KP.set (bp := b) h0 (by decide) (Nat.le_refl _) u1)⟩
/-- What Group answers and leaves, where kd of the steps are done. -/
def GO (bp : Nat) (xs : List Fl) (st : List St) (kd : Nat) (l : List Fl) (vn vs : Value) (t : Int) (w' : World) : Prop :=
  (t ≠ 0 ∧ PS w' bp xs st kd vn vs ∧ ∃ i f, l[i]? = some f ∧ SCk f t ∧ ∀ g ∈ l.take i, SCk g 0) ∨
  ((∀ f ∈ l, SCk f 0) ∧ ∃ o, LastO l o ∧ o.length ≤ 3000 ∧
    ((t = 0 ∧ stB xs o = [] ∧ PS w' bp xs st kd vn vs) ∨
     (t = 4 ∧ stB xs o ≠ [] ∧ 200 < (wl (stB xs o) xs).length ∧ PS w' bp xs st kd vn vs) ∨
     (t = 0 ∧ stB xs o ≠ [] ∧ (wl (stB xs o) xs).length ≤ 200 ∧ ∃ s vn' vs', s.a = stA xs o ∧ s.b = stB xs o ∧ PS w' bp (wl (stB xs o) xs) (st.take kd ++ [s]) (kd + 1) vn' vs')))
theorem SCk.isC {f : Fl} (h : SCk f 0) : adr.isC f.c f.r = true := by
  rcases h with ⟨-, h⟩ | ⟨-, h⟩
  · by_cases hc : adr.isC f.c f.r = true
    · exact hc
    · rw [if_neg hc] at h; cases h
  · exact (h.fine.cell f (by simp)).1
/-- Cells that stand one behind the other in a row of so many are no more. -/
theorem srt_len : ∀ (o : List Fl) (lo : Int), Srt o → (∀ f ∈ o, adr.isC f.c f.r = true ∧ lo < f.r * 26 + f.c) → (o.length : Int) ≤ 2600 - lo ∨ o = [] := by
  intro o
  induction o with
  | nil => intro lo _ _; exact .inr rfl
  | cons x o ih =>
    intro lo hs hc
    left
    obtain ⟨h1, h2⟩ := List.pairwise_cons.1 hs
    obtain ⟨c1, c2⟩ := hc x (by simp)
    have c3 := adr.isC_iff.1 c1
    rcases ih (x.r * 26 + x.c) h2 (fun f hf => ⟨(hc f (by simp [hf])).1, by
      have a := lt_iff.1 (h1 f hf)
      have b := adr.isC_iff.1 (hc f (by simp [hf])).1
      omega⟩) with h | h
    · rw [List.length_cons]; omega
    · subst h; simp; omega
theorem lastO_len {l o : List Fl} (h : LastO l o) (ha : ∀ f ∈ l, SCk f 0) : o.length ≤ 3000 := by
  rcases srt_len o 0 h.1 (fun f hf => by
    have hm : f ∈ l := by
      have := List.mem_of_find?_eq_some ((h.2 f).1 hf)
      simpa using this
    have hc := (ha f hm).isC
    have := adr.isC_iff.1 hc
    exact ⟨hc, by omega⟩) with h | h
  · omega
  · subst h; simp
set_option maxRecDepth 100000 in
set_option maxHeartbeats 8000000 in
theorem group_any (bp : Nat) (xs : List Fl) (st : List St) (kd : Nat) (hkd : kd ≤ st.length) (vn vs : Value) (pv : Option Addr) (cv : Nat) (l : List Fl) (w : World) (h : PS w bp xs st kd vn vs) (hn : st.length ≤ 1000) (hl : xs.length ≤ 200) (hs : Srt xs) (hv : FM w pv l) (hvl : l.length ≤ 4398046511104) (hvc : pv = none → cv = 0) (hE : EnvP w) :
    Calls Tryz.prog 15 #[.pointer (some ⟨bp, 0, none⟩), .slice pv l.length cv] w fun e w' => ∃ t, e = .returned (errV t) ∧ KP bp w w' ∧ GO bp xs st kd l vn vs t w' := by
  have HP : Hid (PS w bp xs st kd vn vs ∧ FM w pv l) := ⟨h, hv⟩
  have HC : Hid (∀ f wx, Below w.heap.size w wx → Calls Tryz.prog 29 #[C f.c f.r, .string f.s] wx fun e w' => (∃ t, e = .returned (errV t) ∧ SCk f t) ∧ Below wx.heap.size wx w') := fun f wx hb => scheck_any f wx (hE.below hb hE.size)
  have HLs : Hid (∀ wx, Below w.heap.size w wx → Calls Tryz.prog 31 #[.slice pv l.length cv] wx fun e w' => ∃ g' m c' o, e = .returned (.slice g' m c') ∧ (LastO l o ∧ o.length = m) ∧ FM w' g' o ∧ Below wx.heap.size wx w') := fun wx hx => (lastOf_any pv cv l wx (hv.below hx) (by omega) hvc).mono (fun e w' ⟨v, o, e1, e2, e3, e4, e5⟩ => by
    obtain ⟨p, c, rfl, hm⟩ := FB.shape (own_base e3 (Nat.zero_le _))
    exact ⟨p, _, c, o, e1, ⟨e2, rfl⟩, hm, e5⟩)
  obtain ⟨N, hN⟩ : ∃ N, l.length = N := ⟨_, rfl⟩
  have HN : Hid (l.length = N) := hN
  have hN3 : (N : Int) ≤ 4398046511104 := by omega
  rw [hN] at HLs ⊢
  clear h hv hE hN hvl hvc
  go_enter Tryz.func15, Tryz.ntmps15
  go_wp2_with fail
  go_loopw [12] (fun i wr => ∃ q : Nat, i = .int .i64 q ∧ q ≤ N ∧ Hid ((∀ f ∈ l.take q, SCk f 0) ∧ Below w.heap.size w wr)) (fun i _ => N - (intOf i).toNat)
  case atStart => exact ⟨0, rfl, Nat.zero_le _, ⟨fun f hf => by simp at hf, Below.refl _ _⟩⟩
  case round =>
    obtain ⟨q, rfl, hq, HK⟩ := hrel
    by_cases hqN : q < N
    · obtain ⟨f, hfq⟩ : ∃ f, l[q]? = some f := ⟨_, List.getElem?_eq_getElem (by rw [HN.out]; exact hqN)⟩
      obtain ⟨gv, ov, rfl⟩ : ∃ gv ov, pv = some ⟨gv, ov, none⟩ := by
        obtain ⟨g, o, h, -⟩ := HP.out.2.at hfq
        exact ⟨g, o, h⟩
      obtain ⟨q0, q1, q2⟩ := FM.cells (HP.out.2.below HK.out.2) hfq
      have HFQ : Hid (l[q]? = some f) := hfq
      have hqi : (q : Int) < (N : Int) := by omega
      have hqi0 : (0 : Int) ≤ (q : Int) := by omega
      have hbx : (wr.alloc (.cells #[.int .i64 f.c, .int .i64 f.r, .string f.s] 36)).heap[wr.heap.size]? = some (.cells #[.int .i64 f.c, .int .i64 f.r, .string f.s] 36 (0, 0)) := heap_alloc_new _ _
      have hb1 : Below wr.heap.size wr (wr.alloc (.cells #[.int .i64 f.c, .int .i64 f.r, .string f.s] 36)) := (Below.refl _ _).alloc (Nat.le_refl _) _
      have hb1w := bnext HK.out.2 hb1 HK.out.2.size
      obtain ⟨b0, b1, b2⟩ := cells3 hbx
      clear hfq
      go_wp2_with fail
      refine (HC.out f _ hb1w).mono ?_
      rintro e w1 ⟨⟨t, rfl, ht⟩, hb2⟩
      have HB : Hid (Below w.heap.size w w1 ∧ SCk f t) := ⟨bnext hb1w hb2 hb1w.size, ht⟩
      clear b0 b1 b2 q0 q1 q2 hbx hb1 hb2 hb1w ht
      by_cases h0 : t = 0
      · subst h0
        rw [errV_zero]
        go_wp2_with fail
        refine ⟨⟨q + 1, rfl, by omega, ⟨fun g hg => ?_, HB.out.1⟩⟩, by simp [intOf]; omega⟩
        rw [List.take_add_one, HFQ.out, List.mem_append] at hg
        rcases hg with hg | hg
        · exact HK.out.1 g hg
        · have e : g = f := by simpa using hg
          subst e
          exact HB.out.2
      · have H0 : Hid (t ≠ 0) := h0
        have HV : Hid (errV t = .iface 59 (.int .i64 t)) := errV_some h0
        rw [HV.out]
        clear h0
        go_wp2_with fail
        go_ret
        exact ⟨t, by rw [HV.out]; rfl, KP.of HB.out.1 (Nat.le_of_lt HP.out.1.lt), .inl ⟨H0.out, HP.out.1.next HB.out.1, q, f, HFQ.out, HB.out.2, HK.out.1⟩⟩
    · have e : q = N := by omega
      subst e
      have hq' : ¬ (q : Int) < (q : Int) := by omega
      have HA : Hid (∀ f ∈ l, SCk f 0) := by
        have := HK.out.1
        rw [← HN.out, List.take_length] at this
        exact this
      have hb := HK.out.2
      have HB : Hid (Below w.heap.size w wr) := hb
      have hp := HP.out.1.next hb
      obtain ⟨p, c, rfl, hm, hcap, -⟩ := hp.now.full
      obtain ⟨ps, cs, rfl, -⟩ := hp.steps
      obtain ⟨c0, c1, c2⟩ := cells3 hp.blk
      have HPr : Hid (PS wr bp xs st kd (.slice p xs.length c) (.slice ps st.length cs)) := hp
      have HL : Hid (∀ wx, Below wr.heap.size wr wx → Calls Tryz.prog 31 #[.slice pv q cv] wx fun e w' => ∃ g' m c' o, e = .returned (.slice g' m c') ∧ (LastO l o ∧ o.length = m) ∧ FM w' g' o ∧ Below wx.heap.size wx w') := fun wx hx => HLs.out wx (bnext HB.out hx HB.out.size)
      have HS : Hid (∀ wx g' m c' o, Below wr.heap.size wr wx → (LastO l o ∧ o.length = m) → FM wx g' o → Calls Tryz.prog 30 #[.slice p xs.length c, .slice g' m c'] wx fun e w' => ∃ va vb, e = .returned (.agg #[va, vb]) ∧ Sp xs l w' va vb ∧ Below wx.heap.size wx w') := fun wx g' m c' o hx ho hfx => by
        obtain ⟨o1, rfl⟩ := ho
        have o3 := lastO_len o1 HA.out
        exact (stepTo_any p g' c c' xs o wx (hm.below hx) (by omega) hs hfx (by omega)).mono (fun e w' ⟨va, vb, e1, e2, e3, e4⟩ => ⟨va, vb, e1, ⟨o, o1, o3, own_base e2 (Nat.zero_le _), own_base e3 (Nat.zero_le _)⟩, e4⟩)
      have sof : ∀ wx, Below wr.heap.size wr wx → GS wr bp (.slice p xs.length c) wx := fun wx hx => ⟨(hx.cell (p := ⟨bp, 0, none⟩) hp.lt).trans c0, hx⟩
      have h0d := sof wr.drew (Below.refl _ _).drew
      have SOF : Hid (∀ wx, Below wr.heap.size wr wx → GS wr bp (.slice p xs.length c) wx) := sof
      have HcapX : Hid (xs.length ≤ c) := hcap
      clear hp hm hb sof hcap HK HLs
      go_wp2_with fail
      go_cut [8] (fun s8 wx => ∃ b va vb, s8 = .pointer (some ⟨b, 0, none⟩) ∧ wx.heap[b]? = some (.cells #[va, vb] 63 (0, 0)) ∧ Sp xs l wx va vb ∧ Below wr.heap.size wr wx)
      case first =>
        go_region_held3 (fun wx => GS wr bp (.slice p xs.length c) wx) (first | exact h0d | exact SOF.out _ (bnext (gsb (by assumption)) (by assumption) (gsb (by assumption)).size) | exact SOF.out _ (Below.alloc (gsb (by assumption)) (gsb (by assumption)).size _) | exact SOF.out _ (hbw2.alloc hbw2.size _) | exact SOF.out _ ((hbw2.setCell (Nat.le_refl _) _).setCell (Nat.le_refl _) _) | exact SOF.out _ ((hbw2.setCell hle _).setCell hle _)) (first | (go_at_call 31; refine (HL.out _ (gsb (by assumption))).mono ?_; rintro e w1 ⟨g', m', c', o', rfl, ho1, hf1, hb1⟩; have hle : wr.heap.size ≤ w1.heap.size := (bnext (gsb (by assumption)) hb1 (gsb (by assumption)).size).size; (first | have hzA : w1.heap[wr.heap.size]? = some (.cells Z2 63 (0, 0)) := (hb1.block _ (by simp)).trans (heap_alloc_new wr _) | skip)) | (go_at_call 30; refine (HS.out _ _ _ _ _ (gsb (by assumption)) ho1 (by first | exact hf1 | exact hf1.below ((Below.refl _ _).alloc (Nat.le_refl _) _))).mono ?_; rintro e w2 ⟨va, vb, rfl, hsp, hb2⟩; have hbw2 : Below wr.heap.size wr w2 := bnext (gsb (by assumption)) hb2 (gsb (by assumption)).size; obtain ⟨⟨pa, na, ca, rfl⟩, pb, nb, cb, rfl⟩ := hsp.form; (first | (have hzB : w2.heap[wr.heap.size]? = some (.cells Z2 63 (0, 0)) := (hb2.block _ (fm.lt_blk hzA)).trans hzA; obtain ⟨y0, y1⟩ := cells2 hzB; have z0 := froz hzB 0; have z1 := froz hzB 1; skip) | (have hzB : w2.heap[w1.heap.size]? = some (.cells Z2 63 (0, 0)) := (hb2.block _ (by simp)).trans (heap_alloc_new w1 _); obtain ⟨y0, y1⟩ := cells2 hzB; have z0 := froz hzB 0; have z1 := froz hzB 1) | skip)))
        all_goals
          go_wp2_with fail
          go_meet
          case rel => first | exact ⟨_, _, _, rfl, (set2 hzB hsp).1, (set2 hzB hsp).2, (hbw2.setCell (Nat.le_refl _) _).setCell (Nat.le_refl _) _⟩ | exact ⟨_, _, _, rfl, (set2 hzB hsp).1, (set2 hzB hsp).2, (hbw2.setCell hle _).setCell hle _⟩ | exact ⟨_, _, _, rfl, heap_alloc_new w2 _, hsp.kp (KP.of (bp := w2.heap.size) ((Below.refl _ _).alloc (Nat.le_refl _) _) (Nat.le_refl _)), hbw2.alloc hbw2.size _⟩
      case rest =>
      obtain ⟨b, va, vb, rfl, hb, hsp, hbl⟩ := hcut
      clear c0 c1 c2 h0d
      have HPc : Hid (PS wc bp xs st kd (.slice p xs.length c) (.slice ps st.length cs) ∧ KP bp w wc) := ⟨HPr.out.next hbl, KP.of (bnext HB.out hbl HB.out.size) (Nat.le_of_lt HP.out.1.lt)⟩
      clear hbl SOF HL HS HPr HB HC
      obtain ⟨o, ho, hol, h1, h2⟩ := hsp
      obtain ⟨pa, ca, rfl, -⟩ := h1.full
      obtain ⟨pb, cb, rfl, hmb, -⟩ := h2.full
      have HO : Hid (LastO l o ∧ o.length ≤ 3000) := ⟨ho, hol⟩
      have hbl6 : (stB xs o).length ≤ 50000 := by have := stB_len xs o; omega
      obtain ⟨b0, b1⟩ := cells2 hb
      obtain ⟨c0, c1, c2⟩ := cells3 HPc.out.1.blk
      obtain ⟨p', c', e1, hmx, -⟩ := HPc.out.1.now.full
      injection e1 with e1 _ e3
      subst e1 e3
      have HW : Hid (Calls Tryz.prog 27 #[.slice p xs.length c, .slice pb (stB xs o).length cb] wc.drew fun e w' => (∃ v, e = .returned v ∧ FB w' v (wl (stB xs o) xs)) ∧ Below wc.drew.heap.size wc.drew w') := (with_any p pb c cb xs (stB xs o) wc.drew (hmx.below (Below.refl _ _).drew) (by omega) HcapX.out (hmb.below (Below.refl _ _).drew) hbl6).mono (fun e w' ⟨⟨v, e1, e2⟩, e3⟩ => ⟨⟨v, e1, own_base e2 (Nat.zero_le _)⟩, e3⟩)
      obtain ⟨A, hA⟩ : ∃ A, stA xs o = A := ⟨_, rfl⟩
      obtain ⟨T, hT⟩ : ∃ T, stB xs o = T := ⟨_, rfl⟩
      have HAT : Hid (stA xs o = A ∧ stB xs o = T) := ⟨hA, hT⟩
      rw [hA] at h1 hb b0
      rw [hT] at h2 hb b1 HW
      obtain ⟨na, hna⟩ : ∃ na, A.length = na := ⟨_, rfl⟩
      obtain ⟨nb, hnb⟩ : ∃ nb, T.length = nb := ⟨_, rfl⟩
      rw [hna] at h1 hb b0
      rw [hnb] at h2 hb b1 HW
      have HQ : Hid (wc.heap[b]? = some (.cells #[.slice pa na ca, .slice pb nb cb] 63 (0, 0)) ∧ FB wc (.slice pa na ca) A ∧ FB wc (.slice pb nb cb) T) := ⟨hb, h1, h2⟩
      have HNB : Hid (T.length = nb) := hnb
      clear h1 h2 hb hmb hmx ho hol hbl6 hA hT hna hnb
      by_cases hz : nb = 0
      · subst hz
        have HE : Hid (T = []) := List.length_eq_zero_iff.1 HNB.out
        clear HW
        go_wp2_with fail
        go_ret
        exact ⟨0, rfl, HPc.out.2, .inr ⟨HA.out, o, HO.out.1, HO.out.2, .inl ⟨rfl, HAT.out.2.trans HE.out, HPc.out.1⟩⟩⟩
      · have HE : Hid (stB xs o ≠ []) := fun e => by
          have := HNB.out
          rw [← HAT.out.2, e] at this
          exact hz this.symm
        have hz' : ¬ (nb : Int) = 0 := by omega
        have HX : Hid (stB xs o = T) := HAT.out.2
        go_wp2_with fail
        go_cut [9] (fun s9 wx => FB wx s9 (wl T xs) ∧ Below wc.heap.size wc wx)
        case first =>
          go_region_with (go_at_call 27; refine HW.out.mono ?_; rintro e w3 ⟨⟨v, rfl, hv⟩, hb3⟩)
          all_goals
            go_wp2_with fail
            go_meet
            case rel => exact ⟨hv, (Below.refl _ _).drew.trans hb3⟩
        case rest =>
        obtain ⟨hv, hbw⟩ := hcut
        obtain ⟨pv', cv', rfl, -⟩ := hv.full
        have hp3 := HPc.out.1.next hbw
        have hk3 := HPc.out.2.trans (KP.of hbw (Nat.le_of_lt HPc.out.1.lt))
        have hb3 := (hbw.block _ (fm.lt_blk HQ.out.1)).trans HQ.out.1
        have ha3 := HQ.out.2.1.below hbw
        have hd3 := HQ.out.2.2.below hbw
        clear c0 c1 c2 b0 b1 hbw HQ HPc HW
        obtain ⟨m, hm⟩ : ∃ m, (wl T xs).length = m := ⟨_, rfl⟩
        have HM : Hid ((wl T xs).length = m) := hm
        rw [hm] at hv ⊢
        clear hm
        by_cases hlen : m ≤ 200
        · have hl1 : ¬ (200 : Int) < (m : Int) := by omega
          have hl2 : (m : Int) ≤ 200 := by omega
          obtain ⟨c0, c1, c2⟩ := cells3 hp3.blk
          have z0 := froz hp3.blk 0
          obtain ⟨h4, h5⟩ := hp3.setNow hv
          have hbb : b ≠ bp := fun e => by
            rw [e, hp3.blk] at hb3
            injection hb3 with hb3
            injection hb3 with _ q
            exact absurd q (by decide)
          have hb4 : (wc.setCell ⟨bp, 0, none⟩ (.slice pv' m cv')).heap[b]? = some (.cells #[.slice pa na ca, .slice pb nb cb] 63 (0, 0)) := (Below.heap_setCell _ _ _ _ hbb).trans hb3
          have HF : Hid (PS (wc.setCell ⟨bp, 0, none⟩ (.slice pv' m cv')) bp (wl T xs) st kd (.slice pv' m cv') (.slice ps st.length cs) ∧ KP bp w (wc.setCell ⟨bp, 0, none⟩ (.slice pv' m cv')) ∧ (wc.setCell ⟨bp, 0, none⟩ (.slice pv' m cv')).heap[b]? = some (.cells #[.slice pa na ca, .slice pb nb cb] 63 (0, 0)) ∧ FB (wc.setCell ⟨bp, 0, none⟩ (.slice pv' m cv')) (.slice pa na ca) A ∧ FB (wc.setCell ⟨bp, 0, none⟩ (.slice pv' m cv')) (.slice pb nb cb) T) := ⟨h4, hk3.trans h5, hb4, ha3.kp h5, hd3.kp h5⟩
          clear hp3 hk3 hb3 ha3 hd3 hv h4 h5 hbb hb4
          go_upto_region 15 with fail
          generalize wc.setCell ⟨bp, 0, none⟩ (.slice pv' m cv') = W at *
          clear c0 c1 c2 z0
          obtain ⟨b0, b1⟩ := cells2 HF.out.2.2.1
          have HPut : Hid (Calls Tryz.prog 32 #[.pointer (some ⟨bp, 0, none⟩), .agg #[.slice pa na ca, .slice pb nb cb]] W fun e w' => (∃ v, e = .returned v) ∧ (∃ vs', PS w' bp (wl T xs) (st.take kd ++ [⟨A, T, .slice pa na ca, .slice pb nb cb⟩]) (kd + 1) (.slice pv' m cv') vs') ∧ KP bp W w') := put_gen bp (wl T xs) st kd hkd _ _ ⟨A, T, .slice pa na ca, .slice pb nb cb⟩ W HF.out.1 ⟨HF.out.2.2.2.1, HF.out.2.2.2.2⟩ hn
          go_wp2_with fail
          refine HPut.out.mono ?_
          rintro e w5 ⟨⟨v, rfl⟩, ⟨vs', hp5⟩, hk5⟩
          have HG : Hid (PS w5 bp (wl T xs) (st.take kd ++ [⟨A, T, .slice pa na ca, .slice pb nb cb⟩]) (kd + 1) (.slice pv' m cv') vs' ∧ KP bp w w5) := ⟨hp5, HF.out.2.1.trans hk5⟩
          clear hp5 hk5 b0 b1
          go_wp2_with fail
          go_ret
          refine ⟨0, rfl, HG.out.2, .inr ⟨HA.out, o, HO.out.1, HO.out.2, .inr (.inr ⟨rfl, HE.out, ?_, ⟨A, T, .slice pa na ca, .slice pb nb cb⟩, .slice pv' m cv', vs', HAT.out.1.symm, HAT.out.2.symm, ?_⟩)⟩⟩
          · rw [HAT.out.2, HM.out]; exact hlen
          · rw [HAT.out.2]; exact HG.out.1
        · have hl1 : (200 : Int) < (m : Int) := by omega
          have HF : Hid (PS wc bp xs st kd (.slice p xs.length c) (.slice ps st.length cs) ∧ KP bp w wc) := ⟨hp3, hk3⟩
          clear hp3 hk3 hb3 ha3 hd3 hv
          go_wp2_with fail
          go_ret
          exact ⟨4, rfl, HF.out.2, .inr ⟨HA.out, o, HO.out.1, HO.out.2, .inr (.inl ⟨rfl, HE.out, by rw [HAT.out.2, HM.out]; omega, HF.out.1⟩)⟩⟩
end Go.Proofs.YtcekgefkimbfaaaGreatDoor.ps
/- Package past: one text is a group of one. Conditions: as each theorem says. -/
namespace Go.Proofs.YtcekgefkimbfaaaGreatDoor.ps
open Go.RowKit
open adr (C)
set_option maxHeartbeats 1600000 in
theorem set_any (bp : Nat) (xs : List Fl) (st : List St) (kd : Nat) (hkd : kd ≤ st.length) (vn vs : Value) (f : Fl) (w : World) (h : PS w bp xs st kd vn vs) (hn : st.length ≤ 1000) (hl : xs.length ≤ 200) (hs : Srt xs) (hE : EnvP w) :
    Calls Tryz.prog 14 #[.pointer (some ⟨bp, 0, none⟩), C f.c f.r, .string f.s] w fun e w' => ∃ v t, e = .returned v ∧ v = errV t ∧ KP bp w w' ∧ GO bp xs st kd [f] vn vs t w' := by
  have hb1 : Below w.heap.size w ((w.alloc (.cells #[.int .i64 f.c, .int .i64 f.r] 34)).alloc (.cells #[.int .i64 f.c, .int .i64 f.r, .string f.s] 36)) := ((Below.refl _ _).alloc (Nat.le_refl _) _).alloc (by simp) _
  have HG : Hid (Calls Tryz.prog 15 #[.pointer (some ⟨bp, 0, none⟩), .slice (some ⟨w.heap.size + 1, 0, none⟩) 1 1] ((w.alloc (.cells #[.int .i64 f.c, .int .i64 f.r] 34)).alloc (.cells #[.int .i64 f.c, .int .i64 f.r, .string f.s] 36)) fun e w' => ∃ v t, e = .returned v ∧ v = errV t ∧ KP bp w w' ∧ GO bp xs st kd [f] vn vs t w') :=
    (group_any bp xs st kd hkd vn vs (some ⟨w.heap.size + 1, 0, none⟩) 1 [f] _ (h.next hb1) hn hl hs (by have := fm_new (w.alloc (.cells #[.int .i64 f.c, .int .i64 f.r] 34)) f; simpa using this) (by simp) (fun e => by cases e) (hE.below hb1 hE.size)).mono (fun e w' ⟨t, e1, e2, e3⟩ => ⟨_, t, e1, rfl, (KP.of hb1 (Nat.le_of_lt h.lt)).trans e2, e3⟩)
  clear h hb1 hs hl hn hE
  go_enter Tryz.func14, Tryz.ntmps14
  go_wp2_with fail
  refine HG.out.mono ?_
  rintro e w1 ⟨v, t, rfl, rfl, hg⟩
  go_wp2_with fail
  go_ret
  exact ⟨_, t, rfl, rfl, hg⟩
/-- Of a list of one cell the last texts are that. -/
theorem LastO.single {f : Fl} {o : List Fl} (h : LastO [f] o) : o = [f] := by
  have hm : ∀ g, g ∈ o ↔ g = f := fun g => by
    rw [h.2 g]
    simp only [List.reverse_singleton, List.find?_cons, List.find?_nil]
    constructor
    · intro e
      split at e
      · injection e with e; exact e.symm
      · cases e
    · rintro rfl
      rw [at_self]
  have hs := h.1
  match o, hm, hs with
  | [], hm, _ => exact absurd ((hm f).2 rfl) (by simp)
  | [g], hm, _ => rw [(hm g).1 (by simp)]
  | g :: g' :: o, hm, hs =>
    have e1 := (hm g).1 (by simp)
    have e2 := (hm g').1 (by simp)
    have := (List.pairwise_cons.1 hs).1 g' (by simp)
    subst e1 e2
    rw [lt_iff] at this
    omega
/-- There is a step if and only if the sheet is another. -/
theorem step_none {xs l o : List Fl} (h : LastO l o) (hx : Srt xs) (hf : Ful xs) : stB xs o = [] ↔ l.foldl wt xs = xs := by
  rw [← group_all h hx hf]
  constructor
  · intro e; rw [e]; rfl
  · intro e
    rw [wl_fold hx (stB_srt h.1)] at e
    cases hS : stB xs o with
    | nil => rfl
    | cons f T =>
      have h1 := txt_fold hx (stB xs o) f.c f.r
      rw [e, hS] at h1
      unfold tell at h1
      rw [List.find?_cons, at_self] at h1
      have hc := (stB_in.1 (show f ∈ stB xs o by rw [hS]; simp)).2
      unfold chg at hc
      rw [h1] at hc
      simp at hc
end Go.Proofs.YtcekgefkimbfaaaGreatDoor.ps
/- Are two sheets the same? Conditions: as each theorem says. -/
namespace Go.Proofs.YtcekgefkimbfaaaGreatDoor.ps
open Go.RowKit
open adr (C)
/-- One cell with one text? -/
def sameF (x y : Fl) : Bool := decide (x.c = y.c) && decide (x.r = y.r) && (x.s.toList == y.s.toList)
theorem sameF_iff {x y : Fl} : sameF x y = true ↔ x = y := by
  constructor
  · intro h
    unfold sameF at h
    simp only [Bool.and_eq_true, decide_eq_true_eq] at h
    obtain ⟨⟨h1, h2⟩, h3⟩ := h
    obtain ⟨xc, xr, xs⟩ := x
    obtain ⟨yc, yr, ys⟩ := y
    have := bytes_eq h3
    simp at h1 h2 this
    rw [h1, h2, this]
  · rintro rfl
    unfold sameF
    simp
theorem eqInF (x y : Fl) (m : Nat) (W : World) : (Op.equalIn (m + 4) 36 (FV x) (FV y)).run Tryz.prog W = .ok (sameF x y) W := by
  have hS : Tryz.prog.underlying 36 = some (.struct (Tryz.prog.fieldsOf 36)) := by kernel_rfl
  have hp : Tryz.prog.stoodInHeld 36 = false := by kernel_rfl
  rw [run_equalIn_struct W (m + 3) 36 _ _ hS hp]
  simp only [Program.fieldsOf, Tryz.underlying36]
  unfold sameF
  cases h1 : (decide (x.c = y.c) && decide (x.r = y.r)) with
  | false => simp [Op.eqFields, go_sem, eqIn30, h1]
  | true =>
    cases h2 : (x.s.toList == y.s.toList) with
    | false => simp [Op.eqFields, go_sem, eqIn30, h1, h2]
    | true => simp [Op.eqFields, go_sem, eqIn30, h1, h2]
theorem neqF (x y : Fl) (W : World) : (binOp BinOp.neq 36 (FV x) (FV y)).run Tryz.prog W = .ok (.bool (!sameF x y)) W := by
  rw [run_neq_struct, show (10000 : Nat) = 9996 + 4 from rfl, eqInF]; rfl
/-- What is told of two. -/
def ShO (xs ys : List Fl) (e : Ending) : Prop := ∃ b : Bool, e = .returned (.bool b) ∧ (b = true ↔ xs = ys)
set_option maxRecDepth 100000 in
set_option maxHeartbeats 4000000 in
theorem sheets_any (p q : Option Addr) (c d : Nat) (xs ys : List Fl) (w : World) (hx : FM w p xs) (hy : FM w q ys) (hl : xs.length ≤ 100000) (hl2 : ys.length ≤ 100000) :
    Calls Tryz.prog 16 #[.slice p xs.length c, .slice q ys.length d] w fun e w' => ShO xs ys e ∧ Below w.heap.size w w' := by
  obtain ⟨n, hn⟩ : ∃ n, xs.length = n := ⟨_, rfl⟩
  obtain ⟨m, hm⟩ : ∃ m, ys.length = m := ⟨_, rfl⟩
  have HN : Hid (xs.length = n ∧ ys.length = m) := ⟨hn, hm⟩
  have HX : Hid (FM w p xs ∧ FM w q ys) := ⟨hx, hy⟩
  have hl1 : (n : Int) ≤ 100000 := by omega
  have hm1 : (m : Int) ≤ 100000 := by omega
  rw [hn, hm]
  clear hx hy hl hn hm hl2
  by_cases hnm : n = m
  · subst hnm
    go_enter Tryz.func16, Tryz.ntmps16
    go_wp2_with fail
    go_loopw [5] (fun a wr => ∃ i : Nat, a = .int .i64 i ∧ i ≤ n ∧ Hid (xs.take i = ys.take i ∧ Below w.heap.size w wr)) (fun a _ => n - (intOf a).toNat)
    case atStart => exact ⟨0, rfl, Nat.zero_le _, rfl, Below.refl _ _⟩
    case round =>
      obtain ⟨i, rfl, hi, HB⟩ := hrel
      by_cases hin : i < n
      · have hiN : (i : Int) < (n : Int) := by omega
        have hi0 : (0 : Int) ≤ (i : Int) := by omega
        obtain ⟨x, hx⟩ : ∃ x, xs[i]? = some x := ⟨_, List.getElem?_eq_getElem (by rw [HN.out.1]; exact hin)⟩
        obtain ⟨y, hy⟩ : ∃ y, ys[i]? = some y := ⟨_, List.getElem?_eq_getElem (by rw [HN.out.2]; exact hin)⟩
        obtain ⟨gx, ox, rfl, -⟩ := HX.out.1.at hx
        obtain ⟨gy, oy, rfl, -⟩ := HX.out.2.at hy
        obtain ⟨q0, q1, q2⟩ := FM.cells (HX.out.1.below HB.out.2) hx
        obtain ⟨r0, r1, r2⟩ := FM.cells (HX.out.2.below HB.out.2) hy
        have e33 := fun W => neqF x y W
        have HXY : Hid (xs[i]? = some x ∧ ys[i]? = some y) := ⟨hx, hy⟩
        clear hx hy
        go_wp2_with fail
        go_cut [25] (fun s25 wx => s25 = .bool (!sameF x y) ∧ wx = wr.drew)
        case first =>
          go_region
          all_goals
            go_wp2_with fail
            go_meet
            case rel => exact ⟨rfl, rfl⟩
        case rest =>
        obtain ⟨rfl, rfl⟩ := hcut
        clear e33 q0 q1 q2 r0 r1 r2
        cases hs : sameF x y with
        | true =>
          have HE : Hid (x = y) := sameF_iff.1 hs
          clear hs
          rw [show (!true) = false from rfl]
          go_wp2_with fail
          exact ⟨⟨i + 1, rfl, hin, by rw [List.take_add_one, List.take_add_one, HXY.out.1, HXY.out.2, HB.out.1, HE.out], HB.out.2.drew⟩, by simp [intOf]; omega⟩
        | false =>
          have HE : Hid (xs ≠ ys) := fun e => by
            have h1 := HXY.out
            rw [e, h1.2] at h1
            have h2 := h1.1
            injection h2 with h2
            rw [sameF_iff.2 h2.symm] at hs
            cases hs
          clear hs
          rw [show (!false) = true from rfl]
          go_wp2_with fail
          go_ret
          exact ⟨⟨false, rfl, ⟨fun h => Bool.noConfusion h, fun h => absurd h HE.out⟩⟩, HB.out.2.drew⟩
      · have hin' : ¬ (i : Int) < (n : Int) := by omega
        have HE : Hid (xs = ys) := by
          have h1 := HB.out.1
          rw [List.take_of_length_le (by rw [HN.out.1]; omega), List.take_of_length_le (by rw [HN.out.2]; omega)] at h1
          exact h1
        go_wp2_with fail
        go_ret
        exact ⟨⟨true, rfl, ⟨fun _ => HE.out, fun _ => rfl⟩⟩, HB.out.2⟩
  · have HE : Hid (xs ≠ ys) := fun e => by
      have h1 := HN.out
      rw [e] at h1
      omega
    have hnm' : ¬ (n : Int) = (m : Int) := by omega
    go_enter Tryz.func16, Tryz.ntmps16
    go_wp2_with fail
    go_ret
    exact ⟨⟨false, rfl, ⟨fun h => Bool.noConfusion h, fun h => absurd h HE.out⟩⟩, Below.refl _ _⟩
end Go.Proofs.YtcekgefkimbfaaaGreatDoor.ps
/- What a Set and a Group leave, in plain words. Nothing is walked here. -/
namespace Go.Proofs.YtcekgefkimbfaaaGreatDoor.ps
/-- A Set with no fault. -/
theorem GO.set {bp : Nat} {xs : List Fl} {st : List St} {f : Fl} {vn vs : Value} {w' : World} (h : GO bp xs st st.length [f] vn vs 0 w') (hx : Srt xs) (hf : Ful xs) (hl : xs.length ≤ 200) :
    SCk f 0 ∧ (wt xs f).length ≤ 200 ∧ ∃ st' vn' vs', PS w' bp (wt xs f) st' st'.length vn' vs' ∧ st'.length ≤ st.length + 1 := by
  rcases h with ⟨h, -⟩ | ⟨ha, o, ho, -, h⟩
  · exact absurd rfl h
  · refine ⟨ha f (by simp), ?_⟩
    rcases h with ⟨-, h1, h2⟩ | ⟨h0, -⟩ | ⟨-, h1, h2, s, vn', vs', -, -, h3⟩
    · have e : wt xs f = xs := (step_none ho hx hf).1 h1
      rw [e]
      exact ⟨hl, st, vn, vs, h2, by omega⟩
    · exact absurd h0 (by decide)
    · have e : wl (stB xs o) xs = wt xs f := group_all ho hx hf
      rw [e] at h2 h3
      rw [List.take_length] at h3
      exact ⟨h2, st ++ [s], vn', vs', by rw [List.length_append]; exact h3, by simp⟩
/-- A Group whose texts have no fault, one by one, and leave no more than there may be. -/
theorem GO.group {bp : Nat} {xs l : List Fl} {vn vs : Value} {t : Int} {w' : World} (h : GO bp xs [] 0 l vn vs t w') (hx : Srt xs) (hf : Ful xs) (hc : ∀ f ∈ l, SCk f 0) (hl : (l.foldl wt xs).length ≤ 200) :
    t = 0 ∧ ((l.foldl wt xs = xs ∧ PS w' bp xs [] 0 vn vs) ∨ (l.foldl wt xs ≠ xs ∧ ∃ s vn' vs', PS w' bp (l.foldl wt xs) [s] 1 vn' vs' ∧ wl s.a (l.foldl wt xs) = xs ∧ s.a.length ≤ 50000)) := by
  rcases h with ⟨h, -, i, f, hm, hk, -⟩ | ⟨-, o, ho, hol, h⟩
  · exact absurd (hk.one (hc f (List.mem_of_getElem? hm))) h
  · have e := group_all ho hx hf
    rcases h with ⟨h0, h1, h2⟩ | ⟨-, -, h1, -⟩ | ⟨h0, h1, h2, s, vn', vs', ea, eb, h3⟩
    · exact ⟨h0, .inl ⟨(step_none ho hx hf).1 h1, h2⟩⟩
    · rw [e] at h1; omega
    · refine ⟨h0, .inr ⟨fun h => h1 ((step_none ho hx hf).2 h), s, vn', vs', ?_, ?_, ?_⟩⟩
      · rw [← e]; exact h3
      · rw [← e, ea]; exact group_back ho.1 hx hf
      · have h4 := stB_len xs o
        rw [ea, stA_len]
        omega
/-- One by one: what stays so. -/
theorem foldl_srt {xs : List Fl} (hx : Srt xs) (l : List Fl) : Srt (l.foldl wt xs) := by
  induction l generalizing xs with
  | nil => exact hx
  | cons f l ih => exact ih (wt_srt hx f)
theorem foldl_ful {xs : List Fl} (hx : Ful xs) (l : List Fl) : Ful (l.foldl wt xs) := by
  induction l generalizing xs with
  | nil => exact hx
  | cons f l ih => exact ih (wt_ful hx f)
theorem foldl_next {xs l : List Fl} {i : Nat} {f : Fl} (h : l[i]? = some f) : (l.take (i + 1)).foldl wt xs = wt ((l.take i).foldl wt xs) f := by
  rw [List.take_add_one, h, List.foldl_append]
  rfl
/-- Another past's block and lists stay. -/
theorem PS.other {w w' : World} {bp bq : Nat} {xs : List Fl} {k : Nat} {vn : Value} (h : PS w bq xs [] k vn (.slice none 0 0)) (hk : KP bp w w') (hn : bq ≠ bp) : PS w' bq xs [] k vn (.slice none 0 0) :=
  ⟨hk.oth _ _ _ hn h.blk, h.now.kp hk, ⟨rfl, .inl ⟨rfl, rfl⟩⟩, fun s hs => by cases hs⟩
end Go.Proofs.YtcekgefkimbfaaaGreatDoor.ps
