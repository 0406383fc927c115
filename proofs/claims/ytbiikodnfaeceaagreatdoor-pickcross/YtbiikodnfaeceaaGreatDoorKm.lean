
/- Groups cut out of an order are, each, the rows that are alike with its first, as they stand; the firsts are the rows that are like none ahead. Nothing is walked here. Conditions: as each theorem says. -/
import Derived.Test.YtbiikodnfaeceaaGreatDoorKe
import Derived.Test.YtbiikodnfaeceaaGreatDoorSf

/- Groups: all rows once, keys rise, sums. Nothing is walked here. Conditions: as each theorem says. -/
namespace Go.Proofs.YtbiikodnfaeceaaGreatDoor.so
open Go.RowKit Go.Sort Go.Shelf
theorem Pt.flat {al : Nat → Nat → Bool} {Z : List Nat} {ps : List (List Nat)} (h : Pt al Z ps) : ps.flatten = Z := by
  induction h with
  | nil => rfl
  | step z h t ps h1 h2 h3 ih => rw [List.flatten_cons, ih]
theorem Pt.ne {al : Nat → Nat → Bool} {Z : List Nat} {ps : List (List Nat)} (h : Pt al Z ps) : ∀ x ∈ ps, 1 ≤ x.length := by
  induction h with
  | nil => intro x hx; simp at hx
  | step z h t ps h1 h2 h3 ih =>
    intro x hx
    rcases List.mem_cons.1 hx with rfl | hx
    · simp
    · exact ih x hx
theorem Pt.head {al : Nat → Nat → Bool} {Z : List Nat} {p0 : List Nat} {ps : List (List Nat)} (h : Pt al Z (p0 :: ps)) : ∃ t', Z = p0.headD 0 :: t' := by
  cases h with
  | step z h t ps h1 h2 h3 => exact ⟨h ++ t, rfl⟩
theorem Pt.rise {al : Nat → Nat → Bool} {R : Nat → Nat → Prop} {Z : List Nat} {ps : List (List Nat)} (h : Pt al Z ps) (hR : Z.Pairwise R) : ∀ i, i + 1 < ps.length → al ((ps.getD (i + 1) []).headD 0) ((ps.getD i []).headD 0) = false ∧ R ((ps.getD i []).headD 0) ((ps.getD (i + 1) []).headD 0) := by
  induction h with
  | nil => intro i hi; simp at hi
  | step z h t ps h1 h2 h3 ih =>
    have hp := List.pairwise_append.1 hR
    intro i hi
    cases i with
    | zero =>
      cases ps with
      | nil => simp at hi
      | cons p0 ps =>
        obtain ⟨t', ht⟩ := h3.head
        show al (p0.headD 0) z = false ∧ R z (p0.headD 0)
        exact ⟨h2 _ _ ht, hp.2.2 z (by simp) _ (by rw [ht]; simp)⟩
    | succ i =>
      have := ih hp.2.1 i (by simp at hi; omega)
      exact this
theorem crw_zero {a b : Nat → Vl} {c : Nat → Int} : ∀ {m j : Nat}, crw a b c (fun _ => false) m j = 0 → ∀ i, i < m → (a (c (j + i)).toNat).cmp (b (c (j + i)).toNat) = 0
  | 0, _, _, i, hi => absurd hi (Nat.not_lt_zero _)
  | m + 1, j, h, i, hi => by
    unfold crw at h
    have e : sg false ((a (c j).toNat).cmp (b (c j).toNat)) = (a (c j).toNat).cmp (b (c j).toNat) := rfl
    rw [e] at h
    by_cases h0 : (a (c j).toNat).cmp (b (c j).toNat) = 0
    · rw [if_pos h0] at h
      cases i with
      | zero => exact h0
      | succ i =>
        have := crw_zero h i (by omega)
        rwa [show j + (i + 1) = j + 1 + i by omega]
    · rw [if_neg h0] at h
      exact absurd h h0
theorem rise_lt {T : Tb} {n : Nat} {c : Nat → Int} {x y : Nat} (h1 : alT T n c y x = false) (h2 : Tn T n c (fun _ => false) x y) : crw (T.v x) (T.v y) c (fun _ => false) n 0 < 0 := by
  rcases h2 with h | ⟨h, -⟩
  · exact h
  · have : alT T n c y x = true := alk_true.2 fun i hi => by
      have := crw_zero h i hi
      rw [Nat.zero_add] at this
      rw [Vl.cmp_neg, this]; rfl
    rw [this] at h1
    cases h1
/-- What the numbers among some values come to. -/
def tot : List Vl → Int
  | [] => 0
  | x :: xs => (if (x.k == 1) = true then x.n else 0) + tot xs
theorem tot_app (l m : List Vl) : tot (l ++ m) = tot l + tot m := by
  induction l with
  | nil => simp [tot]
  | cons x l ih => rw [List.cons_append, tot, tot, ih]; omega
theorem tot_perm {l m : List Vl} (h : l.Perm m) : tot l = tot m := by
  induction h with
  | nil => rfl
  | cons x _ ih => rw [tot, tot, ih]
  | swap x y l => rw [tot, tot, tot, tot]; omega
  | trans _ _ h1 h2 => rw [h1, h2]
theorem fold_one : ∀ (l : List Int) (t : Vl), Ok3 t → t.s = nul → (∀ n ∈ l, B64 n) → (l.foldl (fun t n => t8 t ⟨1, n, nul⟩) t).k = 1 → l.foldl (fun t n => t8 t ⟨1, n, nul⟩) t = ⟨1, t.n + l.sum, nul⟩
  | [], t, _, hs, _, hk => by
    obtain ⟨tk, tn, ts⟩ := t
    simp only [List.foldl_nil] at hk ⊢
    dsimp only at hs hk
    subst hs
    subst hk
    simp
  | n :: l, t, ht, hs, hl, hk => by
    rw [List.foldl_cons] at hk ⊢
    obtain ⟨tk, tn, ts⟩ := t
    have hok : Ok3 (t8 ⟨tk, tn, ts⟩ ⟨1, n, nul⟩) := t8_ok ht ⟨.inl rfl, hl n (by simp)⟩
    have h4 : (tk == 4) = false := by
      cases e : (tk == 4) with
      | false => rfl
      | true =>
        exfalso
        have stay : ∀ (l : List Int) (x : Vl), (x.k == 4) = true → (l.foldl (fun t n => t8 t ⟨1, n, nul⟩) x).k = 4 := by
          intro l
          induction l with
          | nil => intro x hx; simpa using hx
          | cons a l ih =>
            intro x hx
            obtain ⟨xk, xn, xs⟩ := x
            rw [List.foldl_cons, t8_a hx]
            exact ih _ hx
        have := stay l (t8 ⟨tk, tn, ts⟩ ⟨1, n, nul⟩) (by rw [t8_a e]; exact e)
        rw [this] at hk
        cases hk
    have e8 : t8 ⟨tk, tn, ts⟩ ⟨1, n, nul⟩ = ⟨fK (tn + n), fN (tn + n), nul⟩ := t8_c h4 (by decide)
    have hin : inR (tn + n) = true := by
      cases e : inR (tn + n) with
      | true => rfl
      | false =>
        exfalso
        rw [e8] at hk
        obtain ⟨f1, -⟩ := f_no e
        rw [f1] at hk
        have stay : ∀ (l : List Int) (x : Vl), (x.k == 4) = true → (l.foldl (fun t n => t8 t ⟨1, n, nul⟩) x).k = 4 := by
          intro l
          induction l with
          | nil => intro x hx; simpa using hx
          | cons a l ih =>
            intro x hx
            obtain ⟨xk, xn, xs⟩ := x
            rw [List.foldl_cons, t8_a hx]
            exact ih _ hx
        have := stay l ⟨4, fN (tn + n), nul⟩ rfl
        rw [this] at hk
        cases hk
    rw [fold_one l _ hok (by rw [e8]) (fun m hm => hl m (by simp [hm])) hk, e8, (f_yes hin).2, List.sum_cons]
    simp only [Vl.mk.injEq, true_and, and_true]
    omega
theorem sumL_one {l : List Int} (h : ∀ n ∈ l, B64 n) (hk : (sumL l).k = 1) : sumL l = ⟨1, l.sum, nul⟩ := by
  have : sumL l = ⟨1, 0 + l.sum, nul⟩ := fold_one l ⟨1, 0, nul⟩ ⟨.inl rfl, by decide, by decide⟩ rfl h hk
  rw [this, Int.zero_add]
theorem sumV_one : ∀ (xs : List Vl) (ns : List Int), (∀ n ∈ ns, B64 n) → (∀ x ∈ xs, B64 x.n) → (sumV xs ns).k = 1 → sumV xs ns = ⟨1, ns.sum + tot xs, nul⟩
  | [], ns, h, _, hk => by
    unfold sumV at hk ⊢
    rw [sumL_one h hk]
    simp [tot]
  | x :: xs, ns, h, hx, hk => by
    unfold sumV at hk ⊢
    by_cases h4 : (x.k == 4) = true
    · rw [if_pos h4] at hk
      rw [hk] at h4
      cases h4
    · rw [if_neg h4] at hk ⊢
      by_cases h1 : (x.k == 1) = true
      · rw [if_pos h1] at hk ⊢
        rw [sumV_one xs _ (fun n hn => by
          rcases List.mem_append.1 hn with hn | hn
          · exact h n hn
          · rw [List.mem_singleton] at hn; subst hn; exact hx x (by simp)) (fun y hy => hx y (by simp [hy])) hk]
        rw [tot, if_pos h1]
        simp only [List.sum_append, List.sum_cons, List.sum_nil, Vl.mk.injEq, true_and, and_true]
        omega
      · rw [if_neg h1] at hk ⊢
        rw [sumV_one xs _ h (fun y hy => hx y (by simp [hy])) hk, tot, if_neg h1]
        simp
theorem sumV_ok : ∀ (xs : List Vl) (ns : List Int), (∀ n ∈ ns, B64 n) → (∀ x ∈ xs, B64 x.n) → Ok3 (sumV xs ns)
  | [], ns, h, _ => sumL_ok ns h
  | x :: xs, ns, h, hx => by
    unfold sumV
    by_cases h4 : (x.k == 4) = true
    · rw [if_pos h4]
      exact ⟨.inr (by simpa using h4), hx x (by simp)⟩
    · rw [if_neg h4]
      by_cases h1 : (x.k == 1) = true
      · rw [if_pos h1]
        exact sumV_ok xs _ (fun n hn => by
          rcases List.mem_append.1 hn with hn | hn
          · exact h n hn
          · rw [List.mem_singleton] at hn; subst hn; exact hx x (by simp)) (fun y hy => hx y (by simp [hy]))
      · rw [if_neg h1]
        exact sumV_ok xs _ h (fun y hy => hx y (by simp [hy]))
/-- Sums of groups, added up. -/
def fS (T : Tb) (k : Nat) (ps : List (List Nat)) : Vl := ps.foldl (fun t pt => t8 t (gsum T k pt)) ⟨1, 0, nul⟩
theorem fS_snoc (T : Tb) (k : Nat) (ps : List (List Nat)) (pt : List Nat) : fS T k (ps ++ [pt]) = t8 (fS T k ps) (gsum T k pt) := by simp [fS]
theorem gsum_ok {T : Tb} {k : Nat} {pt : List Nat} (h : ∀ i ∈ pt, B64 (T.v i k).n) : Ok3 (gsum T k pt) := sumV_ok _ _ (fun n hn => by simp at hn) (fun x hx => by
  obtain ⟨i, hi, rfl⟩ := List.mem_map.1 hx
  exact h i hi)
theorem gsum_one {T : Tb} {k : Nat} {pt : List Nat} (h : ∀ i ∈ pt, B64 (T.v i k).n) (hk : (gsum T k pt).k = 1) : gsum T k pt = ⟨1, tot (pt.map fun i => T.v i k), nul⟩ := by
  have := sumV_one (pt.map fun i => T.v i k) [] (fun n hn => by simp at hn) (fun x hx => by
    obtain ⟨i, hi, rfl⟩ := List.mem_map.1 hx
    exact h i hi) hk
  simpa [gsum] using this
theorem fS_ok {T : Tb} {k : Nat} {ps : List (List Nat)} (h : ∀ pt ∈ ps, ∀ i ∈ pt, B64 (T.v i k).n) : Ok3 (fS T k ps) := by
  unfold fS
  suffices H : ∀ (ps : List (List Nat)) (t : Vl), Ok3 t → (∀ pt ∈ ps, ∀ i ∈ pt, B64 (T.v i k).n) → Ok3 (ps.foldl (fun t pt => t8 t (gsum T k pt)) t) from H ps _ ⟨.inl rfl, by decide, by decide⟩ h
  intro ps
  induction ps with
  | nil => intro t ht _; exact ht
  | cons p ps ih => intro t ht hp; exact ih _ (t8_ok ht (gsum_ok (hp p (by simp)))) (fun pt hpt => hp pt (by simp [hpt]))
theorem fS_stay (T : Tb) (k : Nat) : ∀ (ps : List (List Nat)) (x : Vl), (x.k == 4) = true → (ps.foldl (fun t pt => t8 t (gsum T k pt)) x).k = 4
  | [], x, hx => by simpa using hx
  | p :: ps, ⟨xk, xn, xs⟩, hx => by
    rw [List.foldl_cons, t8_a hx]
    exact fS_stay T k ps _ hx
theorem fS_from {T : Tb} {k : Nat} : ∀ (ps : List (List Nat)) (a : Int), (∀ pt ∈ ps, ∀ i ∈ pt, B64 (T.v i k).n) → (ps.foldl (fun t pt => t8 t (gsum T k pt)) ⟨1, a, nul⟩).k = 1 → ps.foldl (fun t pt => t8 t (gsum T k pt)) ⟨1, a, nul⟩ = ⟨1, a + tot (ps.flatten.map fun i => T.v i k), nul⟩
  | [], a, _, _ => by simp [tot]
  | p :: ps, a, h, hk => by
    rw [List.foldl_cons] at hk ⊢
    have hg := h p (by simp)
    obtain ⟨ok2, -⟩ := gsum_ok hg
    have k2 : (gsum T k p).k = 1 := by
      rcases ok2 with e | e
      · exact e
      · exfalso
        have e8 : t8 ⟨1, a, nul⟩ (gsum T k p) = gsum T k p := by unfold t8; rw [if_neg (by simp), if_pos (by rw [e]; rfl)]
        rw [e8, fS_stay T k ps _ (by rw [e]; rfl)] at hk
        cases hk
    rw [gsum_one hg k2, t8_c (by decide) (by decide)] at hk ⊢
    cases e : inR (a + tot (p.map fun i => T.v i k)) with
    | true =>
      rw [(f_yes e).1, (f_yes e).2] at hk ⊢
      rw [fS_from ps _ (fun pt hpt => h pt (by simp [hpt])) hk, List.flatten_cons, List.map_append, tot_app, Int.add_assoc]
    | false =>
      rw [(f_no e).1, fS_stay T k ps _ rfl] at hk
      cases hk
theorem fS_one {T : Tb} {k : Nat} {ps : List (List Nat)} (h : ∀ pt ∈ ps, ∀ i ∈ pt, B64 (T.v i k).n) (hk : (fS T k ps).k = 1) : fS T k ps = ⟨1, tot (ps.flatten.map fun i => T.v i k), nul⟩ := by
  have : fS T k ps = ⟨1, 0 + tot (ps.flatten.map fun i => T.v i k), nul⟩ := fS_from ps 0 h hk
  rw [this, Int.zero_add]
/-- Both ways of adding up come to the same, if neither is bad. -/
theorem sums_same {T : Tb} {k : Nat} {Z Z' : List Nat} {ps : List (List Nat)} (h : ∀ i, i < T.q → B64 (T.v i k).n) (hZ : Z.Perm (List.range T.q)) (hZ' : Z'.Perm (List.range T.q)) (hf : ps.flatten = Z) (h1 : (fS T k ps).k = 1) (h2 : (gsum T k Z').k = 1) : gsum T k Z' = fS T k ps := by
  have hm : ∀ {Y : List Nat}, Y.Perm (List.range T.q) → ∀ i ∈ Y, B64 (T.v i k).n := fun hY i hi => h i (List.mem_range.1 (hY.mem_iff.1 hi))
  rw [gsum_one (hm hZ') h2, fS_one (fun pt hpt i hi => hm hZ i (by rw [← hf]; exact List.mem_flatten.2 ⟨pt, hpt, hi⟩)) h1, hf]
  rw [tot_perm ((hZ'.trans hZ.symm).map _)]
/-- Where no column is asked all rows are one group. -/
theorem Pt.none {T : Tb} {c : Nat → Int} {Z : List Nat} {ps : List (List Nat)} (h : Pt (alT T 0 c) Z ps) (hq : 0 < Z.length) : ps = [Z] := by
  cases h with
  | nil => simp at hq
  | step z h t ps h1 h2 h3 =>
    cases t with
    | nil =>
      cases h3 with
      | nil => simp
    | cons y t' => exact absurd (h2 y t' rfl) (by simp [alT, alk])
end Go.Proofs.YtbiikodnfaeceaaGreatDoor.so
namespace Go.Proofs.YtbiikodnfaeceaaGreatDoor.so
open Go.RowKit Go.Sort Go.Shelf
theorem crw_all {a b : Nat → Vl} {c : Nat → Int} : ∀ {m j : Nat}, (∀ i, i < m → (a (c (j + i)).toNat).cmp (b (c (j + i)).toNat) = 0) → crw a b c (fun _ => false) m j = 0
  | 0, _, _ => rfl
  | m + 1, j, h => by
    unfold crw
    have e : sg false ((a (c j).toNat).cmp (b (c j).toNat)) = (a (c j).toNat).cmp (b (c j).toNat) := rfl
    have h0 : (a (c j).toNat).cmp (b (c j).toNat) = 0 := h 0 (by omega)
    rw [e, if_pos h0]
    exact crw_all fun i hi => by have := h (i + 1) (by omega); rwa [show j + (i + 1) = j + 1 + i by omega] at this
theorem alT_crw {T : Tb} {n : Nat} {c : Nat → Int} {x y : Nat} : alT T n c x y = true ↔ crw (T.v x) (T.v y) c (fun _ => false) n 0 = 0 := by
  unfold alT
  rw [alk_true]
  constructor
  · intro h; exact crw_all fun i hi => by rw [Nat.zero_add]; exact h i hi
  · intro h i hi; have := crw_zero h i hi; rwa [Nat.zero_add] at this
theorem alT_sym {T : Tb} {n : Nat} {c : Nat → Int} {x y : Nat} (h : alT T n c x y = true) : alT T n c y x = true := by
  rw [alT_crw] at h ⊢
  rw [crw_neg, h]; rfl
theorem alT_trans {T : Tb} {n : Nat} {c : Nat → Int} {x y z : Nat} (h : alT T n c x y = true) (h' : alT T n c y z = true) : alT T n c x z = true := by
  have g := alT_sym h
  have g' := alT_sym h'
  rw [alT_crw] at *
  have k1 := crw_trans (a := T.v x) (b := T.v y) (e := T.v z) (c := c) (d := fun _ => false) (m := n) (j := 0) (by omega) (by omega)
  have k2 := crw_trans (a := T.v z) (b := T.v y) (e := T.v x) (c := c) (d := fun _ => false) (m := n) (j := 0) (by omega) (by omega)
  have k3 := crw_neg (T.v x) (T.v z) c (fun _ => false) n 0
  omega
theorem alT_refl (T : Tb) (n : Nat) (c : Nat → Int) (x : Nat) : alT T n c x x = true := alk_self _ _ _
/-- What stands behind a part is like none of it. -/
theorem apart {T : Tb} {n : Nat} {c : Nat → Int} {z : Nat} {t : List Nat} (h2 : ∀ y t', t = y :: t' → alT T n c y z = false) (hz : ∀ u ∈ t, Tn T n c (fun _ => false) z u) (ht : t.Pairwise (Tn T n c (fun _ => false))) : ∀ u ∈ t, alT T n c u z = false := by
  intro u hu
  cases t with
  | nil => exact absurd hu List.not_mem_nil
  | cons y t' =>
    have hy := h2 y t' rfl
    rcases List.mem_cons.1 hu with rfl | hu'
    · exact hy
    · cases e : alT T n c u z with
      | false => rfl
      | true =>
        exfalso
        have a1 := (List.pairwise_cons.1 ht).1 u hu'
        have a2 := hz y (by simp)
        have a3 := alT_crw.1 e
        unfold Tn at a1 a2
        have k1 := crw_trans (a := T.v y) (b := T.v u) (e := T.v z) (c := c) (d := fun _ => false) (m := n) (j := 0) (by omega) (by omega)
        have k2 := crw_neg (T.v z) (T.v y) c (fun _ => false) n 0
        have : alT T n c y z = true := alT_crw.2 (by omega)
        rw [this] at hy
        cases hy
/-- Is a row like none of lesser number in a list? -/
def fstIn (T : Tb) (n : Nat) (c : Nat → Int) (Z : List Nat) (i : Nat) : Bool := !(Z.any fun j => decide (j < i) && alT T n c j i)
theorem fstIn_true {T : Tb} {n : Nat} {c : Nat → Int} {Z : List Nat} {i : Nat} : fstIn T n c Z i = true ↔ ∀ j ∈ Z, j < i → alT T n c j i = false := by
  unfold fstIn
  simp
theorem part_facts {T : Tb} {n : Nat} {c : Nat → Int} {Z : List Nat} {ps : List (List Nat)} (h : Pt (alT T n c) Z ps) (hR : Z.Pairwise (Tn T n c (fun _ => false))) :
    (∀ pt ∈ ps, pt.Pairwise (· < ·) ∧ ∀ i, i ∈ pt ↔ i ∈ Z ∧ alT T n c i (pt.headD 0) = true) ∧ ps.map (fun pt => pt.headD 0) = Z.filter (fstIn T n c Z) := by
  induction h with
  | nil => exact ⟨fun pt hpt => absurd hpt List.not_mem_nil, rfl⟩
  | step z h t ps h1 h2 h3 ih =>
    obtain ⟨p1, p2, p3⟩ := List.pairwise_append.1 hR
    obtain ⟨i1, i2⟩ := ih p2
    have hap := apart h2 (fun u hu => p3 z (by simp) u hu) p2
    have hall : ∀ x ∈ z :: h, alT T n c x z = true := fun x hx => by
      rcases List.mem_cons.1 hx with rfl | hx
      · exact alT_refl _ _ _ _
      · exact h1 x hx
    have hno : ∀ x ∈ z :: h, ∀ u ∈ t, alT T n c x u = false := fun x hx u hu => by
      cases e : alT T n c x u with
      | false => rfl
      | true =>
        have := alT_trans (alT_sym e) (hall x hx)
        rw [hap u hu] at this
        cases this
    have hlt : (z :: h).Pairwise (· < ·) := by
      refine p1.imp_of_mem (fun {a b} ha hb hab => ?_)
      have e := alT_crw.1 (alT_trans (hall a ha) (alT_sym (hall b hb)))
      unfold Tn at hab
      omega
    have hhd : ∀ pt ∈ ps, pt.headD 0 ∈ t := fun pt hpt => by
      have hm : pt.headD 0 ∈ ps.map (fun pt => pt.headD 0) := List.mem_map.2 ⟨pt, hpt, rfl⟩
      rw [i2] at hm
      exact (List.mem_filter.1 hm).1
    refine ⟨fun pt hpt => ?_, ?_⟩
    · rcases List.mem_cons.1 hpt with rfl | hpt
      · refine ⟨hlt, fun i => ⟨fun hi => ⟨List.mem_append_left _ hi, hall i hi⟩, fun ⟨hi, ha⟩ => ?_⟩⟩
        rcases List.mem_append.1 hi with hi | hi
        · exact hi
        · have := hap i hi
          rw [show (z :: h).headD 0 = z from rfl] at ha
          rw [this] at ha
          cases ha
      · obtain ⟨j1, j2⟩ := i1 pt hpt
        refine ⟨j1, fun i => ⟨fun hi => ⟨List.mem_append_right _ ((j2 i).1 hi).1, ((j2 i).1 hi).2⟩, fun ⟨hi, ha⟩ => ?_⟩⟩
        rcases List.mem_append.1 hi with hi | hi
        · rw [hno i hi _ (hhd pt hpt)] at ha
          cases ha
        · exact (j2 i).2 ⟨hi, ha⟩
    · have et : t.filter (fstIn T n c (z :: h ++ t)) = t.filter (fstIn T n c t) := by
        refine List.filter_congr fun u hu => ?_
        rw [Bool.eq_iff_iff, fstIn_true, fstIn_true]
        constructor
        · intro hf j hj; exact hf j (List.mem_append_right _ hj)
        · intro hf j hj hju
          rcases List.mem_append.1 hj with hj | hj
          · exact hno j hj u hu
          · exact hf j hj hju
      have ez : fstIn T n c (z :: h ++ t) z = true := fstIn_true.2 fun j hj hjz => by
        rcases List.mem_append.1 hj with hj | hj
        · rcases List.mem_cons.1 hj with rfl | hj
          · omega
          · have := (List.pairwise_cons.1 hlt).1 j hj
            omega
        · exact hap j hj
      have eh : h.filter (fstIn T n c (z :: h ++ t)) = [] := by
        rw [List.filter_eq_nil_iff]
        intro u hu e
        have := fstIn_true.1 e z (by simp) ((List.pairwise_cons.1 hlt).1 u hu)
        rw [alT_sym (h1 u hu)] at this
        cases this
      rw [List.filter_append, List.filter_cons, if_pos ez, eh, et, List.map_cons, i2]
      rfl
/-- Rows that are alike with one, as they stand. -/
def lkL (T : Tb) (n : Nat) (c : Nat → Int) (i m : Nat) : List Nat := (List.range m).filter fun j => alT T n c j i
theorem lkL_succ (T : Tb) (n : Nat) (c : Nat → Int) (i m : Nat) : lkL T n c i (m + 1) = lkL T n c i m ++ (if alT T n c m i = true then [m] else []) := by
  unfold lkL
  rw [List.range_succ, List.filter_append]
  cases e : alT T n c m i <;> simp [e]
theorem lkL_len (T : Tb) (n : Nat) (c : Nat → Int) (i m : Nat) : (lkL T n c i m).length ≤ m := by
  have := List.length_filter_le (fun j => alT T n c j i) (List.range m)
  rw [List.length_range] at this
  exact this
theorem inc_ext : ∀ {l m : List Nat}, l.Pairwise (· < ·) → m.Pairwise (· < ·) → (∀ x, x ∈ l ↔ x ∈ m) → l = m
  | [], [], _, _, _ => rfl
  | [], b :: m, _, _, h => absurd ((h b).2 (by simp)) List.not_mem_nil
  | a :: l, [], _, _, h => absurd ((h a).1 (by simp)) List.not_mem_nil
  | a :: l, b :: m, h1, h2, h => by
    have c1 := List.pairwise_cons.1 h1
    have c2 := List.pairwise_cons.1 h2
    have e : a = b := by
      rcases List.mem_cons.1 ((h a).1 (by simp)) with e | e
      · exact e
      · rcases List.mem_cons.1 ((h b).2 (by simp)) with e' | e'
        · exact e'.symm
        · have := c1.1 b e'; have := c2.1 a e; omega
    subst e
    rw [inc_ext c1.2 c2.2 fun x => ?_]
    constructor
    · intro hx
      rcases List.mem_cons.1 ((h x).1 (List.mem_cons_of_mem _ hx)) with rfl | e
      · have := c1.1 x hx; omega
      · exact e
    · intro hx
      rcases List.mem_cons.1 ((h x).2 (List.mem_cons_of_mem _ hx)) with rfl | e
      · have := c2.1 x hx; omega
      · exact e
theorem range_pw (m : Nat) : (List.range m).Pairwise (· < ·) := List.pairwise_lt_range
/-- The first of those that are alike with a row that is like none ahead is that row. -/
theorem lkL_head {T : Tb} {n : Nat} {c : Nat → Int} {i m : Nat} (hi : i < m) (hl : likeA T n c i = false) : (lkL T n c i m).headD 0 = i := by
  have hmem : i ∈ lkL T n c i m := List.mem_filter.2 ⟨List.mem_range.2 hi, alT_refl _ _ _ _⟩
  have hpw : (lkL T n c i m).Pairwise (· < ·) := (range_pw m).filter _
  cases e : lkL T n c i m with
  | nil => rw [e] at hmem; exact absurd hmem List.not_mem_nil
  | cons a l =>
    rw [e] at hmem hpw
    show a = i
    rcases List.mem_cons.1 hmem with h | h
    · exact h.symm
    · have h1 := (List.pairwise_cons.1 hpw).1 i h
      have ha : a ∈ lkL T n c i m := by rw [e]; simp
      have h2 := (List.mem_filter.1 ha).2
      have : likeA T n c i = true := likeA_true.2 ⟨a, h1, h2⟩
      rw [this] at hl
      cases hl
/-- The parts of an order. -/
theorem parts_is {T : Tb} {n : Nat} {c : Nat → Int} {Z : List Nat} {ps : List (List Nat)} (hS : StN T n c (fun _ => false) Z) (hp : Pt (alT T n c) Z ps) :
    ps = (Z.filter fun i => !likeA T n c i).map fun i => lkL T n c i T.q := by
  obtain ⟨h1, h2⟩ := part_facts hp hS.2
  have hm : ∀ i, i ∈ Z ↔ i < T.q := fun i => by rw [hS.1.mem_iff, List.mem_range]
  have e1 : Z.filter (fun i => !likeA T n c i) = Z.filter (fstIn T n c Z) := by
    refine List.filter_congr fun i hi => ?_
    rw [Bool.eq_iff_iff, fstIn_true, Bool.not_eq_true', ← Bool.not_eq_true, likeA_true]
    constructor
    · intro h j hj hji
      cases e : alT T n c j i with
      | false => rfl
      | true => exact absurd ⟨j, hji, e⟩ h
    · rintro h ⟨j, hji, e⟩
      have := h j ((hm j).2 (Nat.lt_trans hji ((hm i).1 hi))) hji
      rw [show alT T n c j i = true from e] at this
      cases this
  rw [e1, ← h2, List.map_map]
  conv => lhs; rw [← List.map_id ps]
  refine List.map_congr_left fun pt hpt => ?_
  obtain ⟨j1, j2⟩ := h1 pt hpt
  show pt = lkL T n c (pt.headD 0) T.q
  refine inc_ext j1 ((range_pw T.q).filter _) fun x => ?_
  rw [j2 x, hm x]
  unfold lkL
  rw [List.mem_filter, List.mem_range]
end Go.Proofs.YtbiikodnfaeceaaGreatDoor.so
