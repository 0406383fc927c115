/- What any text means can be written, no longer than it. Conditions: what words mean, as Fit says; the text has at most 200 bytes. -/
import Derived.Test.YtmpfknokjianbaaGreatDoorBl
namespace Go.Proofs.YtmpfknokjianbaaGreatDoor.fm
theorem brk_len (l : Nat) (t : T) (x : List UInt8) : x.length ≤ (brk l t x).length ∧ (brk l t x).length ≤ x.length + 2 := by
  unfold brk; split <;> simp <;> omega
theorem brd_le (l : Nat) (t : T) (d : Nat) : d ≤ brd l t d ∧ brd l t d ≤ d + 1 := by
  unfold brd; split <;> omega
theorem brk_up {l m : Nat} (h : l ≤ m) (t : T) (x : List UInt8) : (brk l t x).length ≤ (brk m t x).length := by
  unfold brk
  by_cases h1 : loose l t = true
  · have : loose m t = true := by unfold loose at h1 ⊢; simp at h1 ⊢; omega
    rw [if_pos h1, if_pos this]; exact Nat.le_refl _
  · rw [if_neg h1]; split <;> simp <;> omega
theorem brd_up {l m : Nat} (h : l ≤ m) (t : T) (d : Nat) : brd l t d ≤ brd m t d := by
  unfold brd
  by_cases h1 : loose l t = true
  · have : loose m t = true := by unfold loose at h1 ⊢; simp at h1 ⊢; omega
    rw [if_pos h1, if_pos this]; exact Nat.le_refl _
  · rw [if_neg h1]; split <;> omega
theorem brk_not {l : Nat} {t : T} {x : List UInt8} (h : t.kd ≠ 8) : brk l t x = x := by unfold brk loose; simp [h]
theorem brd_not {l : Nat} {t : T} {d : Nat} (h : t.kd ≠ 8) : brd l t d = d := by unfold brd loose; simp [h]
theorem dbl_len (l : List UInt8) : l.length ≤ (dbl l).length := by
  induction l with
  | nil => simp [dbl]
  | cons c l ih => unfold dbl; split <;> simp <;> omega
theorem quoteW_len (s : ByteArray) (k : Nat) (acc : List UInt8) : ∀ l k', quote s k acc = some (l, k') → ∃ l0, l = acc ++ l0 ∧ k + (dbl l0).length + 1 = k' := by
  fun_induction quote s k acc with
  | case1 k acc h h1 h2 ih =>
    intro l k' e
    obtain ⟨l0, rfl, h0⟩ := ih l k' e
    exact ⟨34 :: l0, by simp, by simp [dbl]; omega⟩
  | case2 k acc h h1 h2 => intro l k' e; cases e; exact ⟨[], by simp, by simp [dbl]⟩
  | case3 k acc h h1 ih =>
    intro l k' e
    obtain ⟨l0, rfl, h0⟩ := ih l k' e
    exact ⟨s[k] :: l0, by simp, by unfold dbl; rw [if_neg h1]; simp; omega⟩
  | case4 k acc h => intro l k' e; cases e
theorem badAt_len {s : ByteArray} {k n len : Nat} (h : badAt s k = some (n, len)) : 1 ≤ n ∧ n ≤ 6 ∧ (badT n).length = len := by
  unfold badAt at h
  rw [Option.map_eq_some_iff] at h
  obtain ⟨p, hp, he⟩ := h
  have hm := List.mem_of_find?_eq_some hp
  simp [badList] at hm
  cases he
  rcases hm with rfl | rfl | rfl | rfl | rfl | rfl <;> exact ⟨by simp, by simp, rfl⟩
theorem opW_len (s : ByteArray) (k : Nat) (h : (opAt s k).1 ≠ 0) : (opT (opAt s k).1).length = (opAt s k).2 := by
  revert h
  unfold opAt
  repeat' split
  all_goals simp [opT]
theorem commas_snoc (xs : List (List UInt8)) (x : List UInt8) (h : xs ≠ []) : (commas (xs ++ [x])).length = (commas xs).length + 1 + x.length := by
  cases xs with
  | nil => exact absurd rfl h
  | cons y ys => rw [List.cons_append, commas_cons, commas_cons]; simp; omega
theorem tok_isW (s : ByteArray) (k : Nat) (hk : k ≤ s.size) : ∀ c ∈ (tok s k).data.toList, isW c.toNat = true := by
  intro c hc
  have ht := tok_spec s k
  obtain ⟨i, hi, e⟩ := List.getElem_of_mem hc
  unfold tok at e hi
  simp only [ByteArray.data_extract, Array.toList_extract, List.extract, List.getElem_take, List.getElem_drop] at e
  simp only [ByteArray.data_extract, Array.toList_extract, List.extract, List.length_take, List.length_drop] at hi
  have h1 := ht.2.2.2 (k + i) (by omega) (by omega)
  have hl : k + i < s.size := by have := ht.2.2.1 hk; omega
  rw [nx_in hl] at h1
  have e2 : s[k + i] = c := by rw [← e]; rfl
  rw [← e2]; exact h1
/-- A list of nodes that can be written. -/
structure WL (K : Ink) (ts : List T) (xs : List (List UInt8)) (ds : List Nat) : Prop where
  x : xs.length = ts.length
  d : ds.length = ts.length
  h : ∀ (i : Nat) t x d, ts[i]? = some t → xs[i]? = some x → ds[i]? = some d → W K t x d
theorem WL.nil {K : Ink} : WL K [] [] [] := ⟨rfl, rfl, fun i t x d h => by simp at h⟩
theorem WL.snoc {K : Ink} {ts : List T} {xs : List (List UInt8)} {ds : List Nat} {t : T} {x : List UInt8} {d : Nat} (h : WL K ts xs ds) (ht : W K t x d) : WL K (ts ++ [t]) (xs ++ [x]) (ds ++ [d]) := by
  refine ⟨by simp [h.x], by simp [h.d], fun i u y e h1 h2 h3 => ?_⟩
  by_cases hi : i < ts.length
  · rw [List.getElem?_append_left (by omega)] at h1
    rw [List.getElem?_append_left (by rw [h.x]; omega)] at h2
    rw [List.getElem?_append_left (by rw [h.d]; omega)] at h3
    exact h.h i u y e h1 h2 h3
  · rw [List.getElem?_append_right (by omega)] at h1
    rw [List.getElem?_append_right (by rw [h.x]; omega), h.x] at h2
    rw [List.getElem?_append_right (by rw [h.d]; omega), h.d] at h3
    cases hj : i - ts.length with
    | zero => rw [hj] at h1 h2 h3; simp at h1 h2 h3; subst h1 h2 h3; exact ht
    | succ j => rw [hj] at h1; simp at h1
theorem foldr_snoc (ds : List Nat) (d : Nat) : (ds ++ [d]).foldr max 0 = max (ds.foldr max 0) d := by
  induction ds with
  | nil => simp
  | cons a ds ih => simp only [List.cons_append, List.foldr_cons, ih]; omega
section
variable (L : Lex) (K : Ink) (s : ByteArray) (hs2 : s.size ≤ 200) (F : Fit L K)
def Pw (f : Nat) : Prop :=
  (∀ d k t k', d ≤ 30 → k ≤ s.size → operand L s f d k = .ok t k' → ∃ x dp, W K t x dp ∧ t.kd ≠ 6 ∧ k + (brk 5 t x).length ≤ k' ∧ d + brd 5 t dp ≤ 30) ∧
  (∀ l d k t k', d ≤ 30 → 1 ≤ l → k ≤ s.size → expr L s f l d k = .ok t k' → ∃ x dp, W K t x dp ∧ t.kd ≠ 6 ∧ k + (brk l t x).length ≤ k' ∧ d + brd l t dp ≤ 30) ∧
  (∀ l d t k t' k' m x dp, d ≤ 30 → 1 ≤ l → k ≤ s.size → lev (opAt s (skip s k)).1 < l + 1 → W K t x dp → t.kd ≠ 6 → m + (brk l t x).length ≤ k → d + brd l t dp ≤ 30 → rest L s f l d t k = .ok t' k' → ∃ x dp, W K t' x dp ∧ t'.kd ≠ 6 ∧ m + (brk l t' x).length ≤ k' ∧ d + brd l t' dp ≤ 30) ∧
  (∀ d k t k', d ≤ 30 → k ≤ s.size → args L s f d k = .ok t k' → ∃ xs ds, WL K t xs ds ∧ k + (commas xs).length + 1 ≤ k' ∧ d + ds.foldr max 0 ≤ 30) ∧
  (∀ d a k t k' m xs ds, d ≤ 30 → k ≤ s.size → WL K a xs ds → xs ≠ [] → m + (commas xs).length ≤ k → d + ds.foldr max 0 ≤ 30 → more L s f d a k = .ok t k' → ∃ xs ds, WL K t xs ds ∧ m + (commas xs).length + 1 ≤ k' ∧ d + ds.foldr max 0 ≤ 30) ∧
  (∀ d k t k', d ≤ 30 → k ≤ s.size → arg L s f d k = .ok t k' → ∃ x dp, W K t x dp ∧ k + x.length ≤ k' ∧ d + dp ≤ 30)
include hs2 F
theorem short : ∀ f, Pw L K s f := by
  intro f
  induction f with
  | zero => refine ⟨?_, ?_, ?_, ?_, ?_, ?_⟩ <;> intros <;> simp_all [operand, expr, rest, args, more, arg]
  | succ f ih =>
    obtain ⟨i1, i2, i3, i4, i5, i6⟩ := ih
    obtain ⟨p1, p2, p3, p4, p5, p6⟩ := prog L s f
    refine ⟨?_, ?_, ?_, ?_, ?_, ?_⟩
    · intro d k0 t k' hd hk h
      have hs := skip_spec s k0
      have hk1 := hs.2.2 hk
      have ht := tok_spec s (skip s k0)
      rw [operand] at h
      split at h
      · next c =>
        have hlt := nx_lt (s := s) (k := skip s k0) (by omega)
        split at h
        · cases h
        · obtain ⟨a, k1, h1, h2⟩ := Rs.bind_ok h
          obtain ⟨x, dp, hw, h6, hl, hdd⟩ := i1 _ _ _ _ (by omega) (by omega) h1
          cases h2
          refine ⟨_, _, .neg h6 hw, by simp [tNeg, T.kd], ?_, ?_⟩
          · rw [brk_not (by simp [tNeg, T.kd])]; simp; omega
          · rw [brd_not (by simp [tNeg, T.kd])]; omega
      split at h
      · next c =>
        have hlt := nx_lt (s := s) (k := skip s k0) (by omega)
        split at h
        · cases h
        · obtain ⟨a, k1, h1, h2⟩ := Rs.bind_ok h
          obtain ⟨x, dp, hw, h6, hl, hdd⟩ := i2 _ _ _ _ _ (by omega) (Nat.le_refl _) (by omega) h1
          have e1 := p2 _ _ _ _ _ (Nat.le_refl _) (by omega) h1
          have hs1 := skip_spec s k1
          split at h2
          · cases h2
            have b1 := brk_len 1 t x
            have b2 := brk_len 5 t x
            have b3 := brd_le 1 t dp
            have b4 := brd_le 5 t dp
            exact ⟨x, dp, hw, h6, by omega, by omega⟩
          · cases h2
      split at h
      · next c =>
        have hlt := nx_lt (s := s) (k := skip s k0) (by omega)
        split at h
        · cases h
        · next l k1 hq =>
          cases h
          obtain ⟨l0, e0, e1⟩ := quoteW_len s _ _ _ _ hq
          simp at e0; subst e0
          have hq2 := quote_spec s _ _ _ _ hq
          have hdl := dbl_len l
          have hsz : (⟨l.toArray⟩ : ByteArray).size = l.length := by show l.toArray.size = _; simp
          refine ⟨_, _, .text (by omega), by exact (by decide : (2 : Int) ≠ 6), ?_, ?_⟩
          · rw [brk_not (by exact (by decide : (2 : Int) ≠ 8))]; simp; omega
          · rw [brd_not (by exact (by decide : (2 : Int) ≠ 8))]; omega
      split at h
      · split at h
        · cases h
        · next n len hb =>
          cases h
          have hb2 := badAt_len hb
          refine ⟨_, _, .bad hb2.1 hb2.2.1, by exact (by decide : (4 : Int) ≠ 6), ?_, ?_⟩
          · rw [brk_not (by exact (by decide : (4 : Int) ≠ 8))]; omega
          · rw [brd_not (by exact (by decide : (4 : Int) ≠ 8))]; omega
      split at h
      · next c =>
        have hlt := nx_lt (s := s) (k := tokEnd s (skip s k0)) (by omega)
        split at h
        · cases h
        · obtain ⟨a, k1, h1, h2⟩ := Rs.bind_ok h
          obtain ⟨xs, ds, hw, hl, hdd⟩ := i4 _ _ _ _ (by omega) (by omega) h1
          cases h2
          refine ⟨_, _, .call c.1 hw.x hw.d hw.h, by exact (by decide : (9 : Int) ≠ 6), ?_, ?_⟩
          · rw [brk_not (by exact (by decide : (9 : Int) ≠ 8))]
            have hsz : (tok s (skip s k0)).data.toList.length = tokEnd s (skip s k0) - skip s k0 := by
              have h3 := ht.2.2.1 hk1
              have : (tok s (skip s k0)).size = min (tokEnd s (skip s k0)) s.size - skip s k0 := by unfold tok; rw [ByteArray.size_extract]
              have e : (tok s (skip s k0)).size = (tok s (skip s k0)).data.toList.length := by simp
              omega
            simp only [List.length_append, List.length_cons, List.length_nil]
            have h1 := ht.1
            omega
          · rw [brd_not (by exact (by decide : (9 : Int) ≠ 8))]; omega
      · split at h
        · cases h
        · next t1 hm =>
          cases h
          have hsz : (tok s (skip s k0)).size = min (tokEnd s (skip s k0)) s.size - skip s k0 := by unfold tok; rw [ByteArray.size_extract]
          obtain ⟨h6, h8, x, hw, hl⟩ := F.back _ _ (tok_isW s _ hk1) (by omega) hm
          have h3 := ht.2.2.1 hk1
          have h1 := ht.1
          exact ⟨x, 0, hw, h6, by rw [brk_not h8]; omega, by rw [brd_not h8]; omega⟩
    · intro l d k t k' hd hl hk h
      rw [expr] at h
      split at h
      · next c =>
        obtain ⟨x, dp, hw, h6, hl2, hdd⟩ := i1 _ _ _ _ hd hk h
        have hv : ∀ y, brk l t y = brk 5 t y := fun y => by
          unfold brk loose
          have e : decide (lev t.nm.toNat < l) = decide (lev t.nm.toNat < 5) := by
            have := lev_le t.nm.toNat
            rw [decide_eq_true (by omega), decide_eq_true (by omega)]
          rw [e]
        have hv2 : ∀ y, brd l t y = brd 5 t y := fun y => by
          unfold brd loose
          have e : decide (lev t.nm.toNat < l) = decide (lev t.nm.toNat < 5) := by
            have := lev_le t.nm.toNat
            rw [decide_eq_true (by omega), decide_eq_true (by omega)]
          rw [e]
        exact ⟨x, dp, hw, h6, by rw [hv]; exact hl2, by rw [hv2]; exact hdd⟩
      · obtain ⟨a, k1, h1, h2⟩ := Rs.bind_ok h
        have e1 := p2 _ _ _ _ _ (by omega) hk h1
        obtain ⟨x, dp, hw, h6, hl2, hdd⟩ := i2 _ _ _ _ _ hd (by omega) hk h1
        have u1 := brk_up (Nat.le_add_right l 1) a x
        have u2 := brd_up (Nat.le_add_right l 1) a dp
        exact i3 _ _ _ _ _ _ k x dp hd hl e1.2.1 e1.2.2 hw h6 (by omega) (by omega) h2
    · intro l d t k t' k' m x dp hd hl hk hv hw h6 hm hdd h
      have hs := skip_spec s k
      have hk1 := hs.2.2 hk
      rw [rest] at h
      split at h
      · next c =>
        obtain ⟨a, k1, h1, h2⟩ := Rs.bind_ok h
        have ho := opAt_spec s (skip s k)
        have h0 : (opAt s (skip s k)).1 ≠ 0 := by
          intro e
          rw [e] at c
          simp [lev] at c
          omega
        have hol := opW_len s (skip s k) h0
        have hb2 : skip s k + (opAt s (skip s k)).2 ≤ s.size := by omega
        have e1 := p2 _ _ _ _ _ (by omega) hb2 h1
        obtain ⟨y, e, hy, hy6, hyl, hyd⟩ := i2 _ _ _ _ _ hd (by omega) hb2 h1
        have hnl : loose l (tTwo (opAt s (skip s k)).1 t a) = false := by
          have e : ¬ lev (tTwo (opAt s (skip s k)).1 t a).nm.toNat < l := by show ¬ lev (((opAt s (skip s k)).1 : Int)).toNat < l; rw [Int.toNat_natCast, c]; omega
          unfold loose
          rw [decide_eq_false e, Bool.and_false]
        have W2 := W.two (K := K) (op := (opAt s (skip s k)).1) (by omega) (by omega) h6 hy6 hw hy
        rw [c] at W2
        refine i3 _ _ _ _ _ _ m _ _ hd hl e1.2.1 e1.2.2 W2 (by exact (by decide : (8 : Int) ≠ 6)) ?_ ?_ h2
        · have : ∀ X, brk l (.nd 8 ((opAt s (skip s k)).1 : Int) nul .z .z [t, a]) X = X := fun X => by
            unfold brk
            rw [show loose l (.nd 8 ((opAt s (skip s k)).1 : Int) nul .z .z [t, a]) = false from hnl]; rfl
          rw [this]; simp only [List.length_append]; omega
        · have : brd l (.nd 8 ((opAt s (skip s k)).1 : Int) nul .z .z [t, a]) (max (brd l t dp) (brd (l + 1) a e)) = max (brd l t dp) (brd (l + 1) a e) := by
            conv => lhs; unfold brd
            rw [show loose l (.nd 8 ((opAt s (skip s k)).1 : Int) nul .z .z [t, a]) = false from hnl]; rfl
          rw [this]; omega
      · cases h; exact ⟨x, dp, hw, h6, by omega, hdd⟩
    · intro d k0 t k' hd hk h
      have hs := skip_spec s k0
      have hk1 := hs.2.2 hk
      rw [args] at h
      split at h
      · cases h; exact ⟨[], [], .nil, by simp [commas]; omega, by simp; omega⟩
      · obtain ⟨a, k1, h1, h2⟩ := Rs.bind_ok h
        have e1 := p6 _ _ _ _ hk1 h1
        obtain ⟨x, dp, hw, hl, hdd⟩ := i6 _ _ _ _ hd hk1 h1
        exact i5 _ _ _ _ _ k0 [x] [dp] hd e1.2 (WL.nil.snoc hw) (by simp) (by simp [commas]; omega) (by simp; omega) h2
    · intro d a k0 t k' m xs ds hd hk hw hne hm hdd h
      have hs := skip_spec s k0
      have hk1 := hs.2.2 hk
      rw [more] at h
      split at h
      · next c =>
        have hlt := nx_lt (s := s) (k := skip s k0) (by omega)
        obtain ⟨a1, k1, h1, h2⟩ := Rs.bind_ok h
        have e1 := p6 _ _ _ _ (by omega) h1
        obtain ⟨x, dp, hx, hl, hd2⟩ := i6 _ _ _ _ hd (by omega) h1
        exact i5 _ _ _ _ _ m (xs ++ [x]) (ds ++ [dp]) hd e1.2 (hw.snoc hx) (by simp) (by rw [commas_snoc xs x hne]; omega) (by rw [foldr_snoc]; omega) h2
      · split at h
        · cases h; exact ⟨xs, ds, hw, by omega, hdd⟩
        · cases h
    · intro d k0 t k' hd hk h
      have hs := skip_spec s k0
      have hk1 := hs.2.2 hk
      have ht := tok_spec s (skip s k0)
      have hx : expr L s f 1 d (skip s k0) = .ok t k' → ∃ x dp, W K t x dp ∧ k0 + x.length ≤ k' ∧ d + dp ≤ 30 := fun h => by
        obtain ⟨x, dp, hw, h6, hl, hdd⟩ := i2 _ _ _ _ _ hd (Nat.le_refl _) hk1 h
        have b1 := brk_len 1 t x
        have b3 := brd_le 1 t dp
        exact ⟨x, dp, hw, by omega, by omega⟩
      rw [arg] at h
      split at h
      · exact hx h
      · next r1 hr1 =>
        split at h
        · next c =>
          have hlt := nx_lt (s := s) (k := tokEnd s (skip s k0)) (by omega)
          split at h
          · cases h
          · next r2 hr2 =>
            cases h
            have a1 := F.rback _ _ hr1
            have a2 := F.rback _ _ hr2
            have ht2 := tok_spec s (tokEnd s (skip s k0) + 1)
            have s1 : (tok s (skip s k0)).size = min (tokEnd s (skip s k0)) s.size - skip s k0 := by unfold tok; rw [ByteArray.size_extract]
            have s2 : (tok s (tokEnd s (skip s k0) + 1)).size = min (tokEnd s (tokEnd s (skip s k0) + 1)) s.size - (tokEnd s (skip s k0) + 1) := by unfold tok; rw [ByteArray.size_extract]
            have h3 := ht.2.2.1 hk1
            have h4 := ht2.2.2.1 (by omega)
            have h1 := ht.1
            have h5 := ht2.1
            refine ⟨_, _, .box a1.1 a2.1, ?_, by omega⟩
            simp only [List.length_append, List.length_cons]
            omega
        · exact hx h
theorem parse_short {t : T} {k : Nat} (h : parse L s = .ok t k) : ∃ x dp, W K t x dp ∧ t.kd ≠ 6 ∧ x.length + 1 ≤ s.size ∧ dp ≤ 30 := by
  unfold parse at h
  split at h
  · cases h
  · split at h
    · cases h
    · next c2 =>
      have hlt := nx_lt (s := s) (k := 0) (by omega)
      obtain ⟨a, k1, h1, h2⟩ := Rs.bind_ok h
      obtain ⟨x, dp, hw, h6, hl, hdd⟩ := (short L K s hs2 F _).2.1 _ _ _ _ _ (by omega) (Nat.le_refl _) (by omega) h1
      have e1 := Expr_prog L s (by omega) (by omega) h1
      have b1 := brk_len 1 a x
      have b3 := brd_le 1 a dp
      split at h2
      · cases h2
      · cases h2
        exact ⟨x, dp, hw, h6, by omega, by omega⟩
end
mutual
/-- How many nodes there are. -/
def T.cnt : T → Nat
  | .nd _ _ _ _ _ ts => cntL ts + 1
def cntL : List T → Nat
  | [] => 0
  | t :: ts => t.cnt + cntL ts
end
theorem cnt_eq (k n : Int) (s : ByteArray) (r t : Rf) (ts : List T) : (T.nd k n s r t ts).cnt = cntL ts + 1 := by rw [T.cnt]
theorem cnt_pos (t : T) : 1 ≤ t.cnt := by cases t; rw [cnt_eq]; omega
theorem cntL_app (a b : List T) : cntL (a ++ b) = cntL a + cntL b := by
  induction a with
  | nil => simp [cntL]
  | cons t a ih => simp only [List.cons_append, cntL, ih]; omega
theorem cntL_le (ts : List T) : ∀ (xs : List (List UInt8)), xs.length = ts.length → (∀ (i : Nat) t x, ts[i]? = some t → xs[i]? = some x → t.cnt ≤ x.length) → cntL ts ≤ (commas xs).length := by
  induction ts with
  | nil => intro xs _ _; simp [cntL]
  | cons t ts ih =>
    intro xs hl h
    cases xs with
    | nil => simp at hl
    | cons x xs =>
      have h0 := h 0 t x (by simp) (by simp)
      have h1 := ih xs (by simpa using hl) (fun i t x h1 h2 => h (i + 1) t x (by simpa using h1) (by simpa using h2))
      have h2 : (commas xs).length ≤ (xs.flatMap (fun y => 44 :: y)).length := by
        cases xs with
        | nil => simp [commas]
        | cons y ys => rw [commas_cons]; simp
      rw [commas_cons]
      simp only [cntL, List.length_append]
      omega
theorem opT_pos {op : Nat} (h1 : 1 ≤ op) (h11 : op ≤ 11) : 1 ≤ (opT op).length := by
  have hc : op = 1 ∨ op = 2 ∨ op = 3 ∨ op = 4 ∨ op = 5 ∨ op = 6 ∨ op = 7 ∨ op = 8 ∨ op = 9 ∨ op = 10 ∨ op = 11 := by omega
  rcases hc with rfl | rfl | rfl | rfl | rfl | rfl | rfl | rfl | rfl | rfl | rfl <;> simp [opT]
/-- Each node has a byte of its own. -/
theorem cnt_le {L : Lex} {K : Ink} (F : Fit L K) {t : T} {x : List UInt8} {dp : Nat} (h : W K t x dp) : t.cnt ≤ x.length := by
  have hd : ∀ {t x dp}, W K t x dp → 1 ≤ x.length := fun h => by
    obtain ⟨c, r, rfl, _⟩ := (read_back L F h).1
    simp
  induction h with
  | num h0 h1 => have := hd (W.num (K := K) h0 h1); simp only [T.cnt, cntL]; omega
  | text h => have := hd (W.text (K := K) h); simp only [T.cnt, cntL]; omega
  | truth h => have := hd (W.truth (K := K) h); simp only [T.cnt, cntL]; omega
  | bad h h6 => have := hd (W.bad (K := K) h h6); simp only [T.cnt, cntL]; omega
  | ref h => have := hd (W.ref (K := K) h); simp only [T.cnt, cntL]; omega
  | box h h2 => have := hd (W.box (K := K) h h2); simp only [T.cnt, cntL]; omega
  | @neg a x d ha h ih => have := brk_len 5 a x; simp only [T.cnt, cntL, List.length_cons]; omega
  | @two op a b x y d e h1 h11 ha hb hx hy ihx ihy =>
    have := brk_len (lev op) a x
    have := brk_len (lev op + 1) b y
    have := opT_pos h1 h11
    simp only [T.cnt, cntL, List.length_append]; omega
  | @call name ts xs ds hn hx hdl h ih =>
    have := cntL_le ts xs hx (fun i t x h1 h2 => by
      have hi : i < ds.length := by rw [hdl]; exact (List.getElem?_eq_some_iff.1 h1).1
      exact ih i t x _ h1 h2 (List.getElem?_eq_getElem hi))
    rw [cnt_eq]
    simp only [List.length_append, List.length_cons, List.length_nil]; omega
end Go.Proofs.YtmpfknokjianbaaGreatDoor.fm
