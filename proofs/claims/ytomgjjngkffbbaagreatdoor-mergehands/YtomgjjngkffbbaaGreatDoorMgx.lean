
/- Package sheet: With, plain: a sheet with other texts, one after the other. Names no program beside Xm. -/
import Derived.Test.YtomgjjngkffbbaaGreatDoorXm
import Derived.Test.YtomgjjngkffbbaaGreatDoorMga
namespace Go.Proofs.YtomgjjngkffbbaaGreatDoor.ps
theorem wl_pass {fs : List Fl} {x : Fl} (h : ∀ g ∈ fs, lt x g.c g.r = true) (l : List Fl) : wl fs (x :: l) = x :: wl fs l := by
  cases fs with
  | nil => rfl
  | cons g gs =>
    have hx := h g (by simp)
    show (x :: l).takeWhile _ ++ put g ++ wl gs (cutH g ((x :: l).dropWhile _)) = x :: (l.takeWhile _ ++ put g ++ wl gs (cutH g (l.dropWhile _)))
    rw [List.takeWhile_cons_of_pos (p := fun x => lt x g.c g.r) hx, List.dropWhile_cons_of_pos (p := fun x => lt x g.c g.r) hx]
    rfl
theorem wl_passes {fs A : List Fl} (h : ∀ x ∈ A, ∀ g ∈ fs, lt x g.c g.r = true) (l : List Fl) : wl fs (A ++ l) = A ++ wl fs l := by
  induction A with
  | nil => rfl
  | cons x A ih => rw [List.cons_append, wl_pass (h x (by simp)), ih (fun y hy => h y (by simp [hy]))]; rfl
theorem cutH_in {f x : Fl} {l : List Fl} (h : x ∈ cutH f l) : x ∈ l := by
  cases l with
  | nil => exact h
  | cons y l =>
    have h' : x ∈ (if at' y f.c f.r = true then l else y :: l) := h
    split at h'
    · simp [h']
    · exact h'
theorem wl_in {o xs : List Fl} {x : Fl} (h : x ∈ wl o xs) : x ∈ xs ∨ x ∈ o := by
  induction o generalizing xs with
  | nil => exact .inl h
  | cons f o ih =>
    have h' : x ∈ xs.takeWhile (fun x => lt x f.c f.r) ++ put f ++ wl o (cutH f (xs.dropWhile (fun x => lt x f.c f.r))) := h
    rw [List.mem_append, List.mem_append] at h'
    rcases h' with (h' | h') | h'
    · exact .inl (List.takeWhile_subset _ h')
    · exact .inr (by rw [(put_in h').1]; simp)
    · rcases ih h' with h' | h'
      · exact .inl (List.dropWhile_subset _ (cutH_in h'))
      · exact .inr (by simp [h'])
theorem wt_front {l : List Fl} {f : Fl} (h : ∀ x ∈ l, lt f x.c x.r = true) : wt l f = put f ++ l := by
  cases l with
  | nil => show put f = _; rw [List.append_nil]
  | cons x l =>
    have := h x (by simp)
    rw [lt_iff] at this
    show (if _ then _ else if _ then _ else _) = _
    rw [if_neg (by rw [lt_iff]; omega), if_neg (by rw [at_iff]; omega)]
theorem wt_passes {A l : List Fl} {f : Fl} (h : ∀ x ∈ A, lt x f.c f.r = true) : wt (A ++ l) f = A ++ wt l f := by
  induction A with
  | nil => rfl
  | cons x A ih =>
    rw [List.cons_append]
    show (if _ then _ else _) = _
    rw [if_pos (h x (by simp)), ih (fun y hy => h y (by simp [hy]))]
    rfl
theorem takeW_all {p : Fl → Bool} {l : List Fl} {x : Fl} (h : x ∈ l.takeWhile p) : p x = true := by
  induction l with
  | nil => simp at h
  | cons y l ih =>
    rw [List.takeWhile_cons] at h
    split at h
    · rcases List.mem_cons.1 h with rfl | h
      · assumption
      · exact ih h
    · simp at h
theorem dropW_head {p : Fl → Bool} {l t : List Fl} {x : Fl} (h : l.dropWhile p = x :: t) : p x = false := by
  induction l with
  | nil => simp at h
  | cons y l ih =>
    rw [List.dropWhile_cons] at h
    split at h
    · exact ih h
    next hn => injection h with h1 h2; subst h1; exact Bool.eq_false_iff.2 hn
theorem wl_wt {xs fs : List Fl} {f : Fl} (hx : Srt xs) (ho : Srt (f :: fs)) : wl (f :: fs) xs = wt (wl fs xs) f := by
  have po := List.pairwise_cons.1 ho
  show xs.takeWhile _ ++ put f ++ wl fs (cutH f (xs.dropWhile _)) = _
  have hA : ∀ x ∈ xs.takeWhile (fun x => lt x f.c f.r), lt x f.c f.r = true := fun x hx => takeW_all (p := fun x => lt x f.c f.r) hx
  have e : xs = xs.takeWhile (fun x => lt x f.c f.r) ++ xs.dropWhile (fun x => lt x f.c f.r) := (List.takeWhile_append_dropWhile).symm
  have hD : Srt (xs.dropWhile (fun x => lt x f.c f.r)) := List.Pairwise.sublist (List.dropWhile_sublist _) hx
  have hH : ∀ x t, xs.dropWhile (fun x => lt x f.c f.r) = x :: t → lt x f.c f.r = false := fun x t h => dropW_head (p := fun x => lt x f.c f.r) h
  generalize xs.takeWhile (fun x => lt x f.c f.r) = A at *
  generalize xs.dropWhile (fun x => lt x f.c f.r) = D at *
  subst e
  rw [wl_passes (fun x hx g hg => by
    have h1 := hA x hx
    have h2 := po.1 g hg
    rw [lt_iff] at h1 h2 ⊢
    omega), wt_passes hA, List.append_assoc]
  congr 1
  cases D with
  | nil =>
    rw [wt_front (fun x hx => by
      rcases wl_in hx with hx | hx
      · simp at hx
      · exact po.1 x hx)]
    rfl
  | cons x l =>
    have hx0 := hH x l rfl
    have pD := List.pairwise_cons.1 hD
    by_cases h2 : at' x f.c f.r = true
    · have hc := at_iff.1 h2
      rw [wl_pass (fun g hg => by have := po.1 g hg; rw [lt_iff] at this ⊢; omega)]
      show put f ++ wl fs (if _ then _ else _) = (if _ then _ else if _ then _ else _)
      rw [if_pos h2, if_neg (by rw [hx0]; simp), if_pos h2]
    · show put f ++ wl fs (if _ then _ else _) = _
      rw [if_neg h2, wt_front]
      intro y hy
      rw [lt_no] at hx0
      rw [at_iff] at h2
      have hfx : lt f x.c x.r = true := by rw [lt_iff]; omega
      rcases wl_in hy with hy | hy
      · rcases List.mem_cons.1 hy with rfl | hy
        · exact hfx
        · have := pD.1 y hy
          rw [lt_iff] at this hfx ⊢
          omega
      · exact po.1 y hy
theorem wl_fold {xs o : List Fl} (hx : Srt xs) (ho : Srt o) : wl o xs = o.foldr (fun f l => wt l f) xs := by
  induction o with
  | nil => rfl
  | cons f o ih => rw [wl_wt hx ho, ih (List.pairwise_cons.1 ho).2]; rfl
theorem foldw_srt {xs : List Fl} (hx : Srt xs) (o : List Fl) : Srt (o.foldr (fun f l => wt l f) xs) := by
  induction o with
  | nil => exact hx
  | cons f o ih => exact wt_srt ih f
theorem foldw_ful {xs : List Fl} (hx : Ful xs) (o : List Fl) : Ful (o.foldr (fun f l => wt l f) xs) := by
  induction o with
  | nil => exact hx
  | cons f o ih => exact wt_ful ih f
theorem foldw_no {xs o : List Fl} (hx : Srt xs) {c r : Int} (h : ∀ x ∈ o, ¬ (x.c = c ∧ x.r = r)) : txt (o.foldr (fun f l => wt l f) xs) c r = txt xs c r := by
  induction o with
  | nil => rfl
  | cons f o ih =>
    show txt (wt _ f) c r = _
    rw [txt_wt (foldw_srt hx o), if_neg (h f (by simp)), ih fun y hy => h y (by simp [hy])]
theorem foldw_yes {xs o : List Fl} (hx : Srt xs) (ho : Srt o) {x : Fl} (hm : x ∈ o) : txt (o.foldr (fun f l => wt l f) xs) x.c x.r = x.s := by
  induction o with
  | nil => simp at hm
  | cons f o ih =>
    have ho' := List.pairwise_cons.1 ho
    show txt (wt _ f) x.c x.r = _
    rw [txt_wt (foldw_srt hx o)]
    rcases List.mem_cons.1 hm with rfl | hm
    · rw [if_pos ⟨rfl, rfl⟩]
    · have := ho'.1 x hm
      rw [lt_iff] at this
      rw [if_neg (by omega), ih ho'.2 hm]
/-- All at once is one after the other. -/
theorem wl_ap {xs o : List Fl} (hx : Srt xs) (gx : Ful xs) (ho : Srt o) : wl o xs = ap xs o := by
  rw [wl_fold hx ho]
  refine srt_ext (foldw_srt hx o) (foldw_ful gx o) (ap_srt o hx) (ap_ful o gx) fun c r => ?_
  by_cases h : ∃ x ∈ o, x.c = c ∧ x.r = r
  · obtain ⟨x, hm, rfl, rfl⟩ := h
    rw [foldw_yes hx ho hm, ap_yes hx ho hm]
  · have h' : ∀ x ∈ o, ¬ (x.c = c ∧ x.r = r) := fun x hm e => h ⟨x, hm, e⟩
    rw [foldw_no hx h', ap_no hx h']
end Go.Proofs.YtomgjjngkffbbaaGreatDoor.ps
