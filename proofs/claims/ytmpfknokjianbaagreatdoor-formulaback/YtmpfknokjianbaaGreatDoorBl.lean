/- What is written is read as it was. Conditions: what words mean, as Fit says. -/
import Derived.Test.YtmpfknokjianbaaGreatDoorBk
namespace Go.Proofs.YtmpfknokjianbaaGreatDoor.fm
/-- Words mean what they are written for, and are written no longer than they were. -/
structure Fit (L : Lex) (K : Ink) : Prop where
  numM : ∀ n : Int, 0 ≤ n → n ≤ 9223372036854775807 → L.mean ⟨(K.num n).toArray⟩ = some (.nd 1 n nul .z .z [])
  numW : ∀ n : Int, 0 ≤ n → ∀ c ∈ K.num n, isW c.toNat = true
  numE : ∀ n : Int, 0 ≤ n → K.num n ≠ []
  refM : ∀ r, K.okR r → L.mean ⟨(K.ref r).toArray⟩ = some (tRef r)
  refR : ∀ r, K.okR r → L.ref ⟨(K.ref r).toArray⟩ = some r
  refW : ∀ r, K.okR r → ∀ c ∈ K.ref r, isW c.toNat = true
  refE : ∀ r, K.okR r → K.ref r ≠ []
  truM : ∀ n : Int, n = 0 ∨ n = 1 → L.mean ⟨(truT n).toArray⟩ = some (.nd 3 n nul .z .z [])
  back : ∀ t u, (∀ c ∈ t.data.toList, isW c.toNat = true) → t.size ≤ 200 → L.mean t = some u → u.kd ≠ 6 ∧ u.kd ≠ 8 ∧ ∃ x, W K u x 0 ∧ x.length ≤ t.size
  rback : ∀ t r, L.ref t = some r → K.okR r ∧ (K.ref r).length ≤ t.size
theorem quote_at (s : ByteArray) (l : List UInt8) : ∀ (k : Nat) (acc : List UInt8), At s k (dbl l ++ [34]) → nx s (k + (dbl l).length + 1) ≠ 34 → quote s k acc = some (acc ++ l, k + (dbl l).length + 1) := by
  induction l with
  | nil =>
    intro k acc h hq
    have h1 := (At.cons (c := 34) (y := []) h).1
    have hl := nx_lt (s := s) (k := k) (by rw [h1]; decide)
    rw [nx_in hl] at h1
    have h2 : s[k] = 34 := UInt8.toNat_inj.1 h1
    rw [quote, dif_pos hl, if_pos h2, if_neg (by simpa [dbl] using hq)]
    simp [dbl]
  | cons c l ih =>
    intro k acc h hq
    unfold dbl at h hq ⊢
    by_cases hc : c = 34
    · subst hc
      rw [if_pos rfl] at h hq ⊢
      have h1 := (At.cons h).1
      have h2 := (At.cons (At.cons h).2).1
      have h3 := (At.cons (At.cons h).2).2
      have hl := nx_lt (s := s) (k := k) (by rw [h1]; decide)
      have h4 : s[k] = 34 := by rw [nx_in hl] at h1; exact UInt8.toNat_inj.1 h1
      rw [quote, dif_pos hl, if_pos h4, if_pos (by rw [h2]; rfl), ih (k + 2) _ h3 (by simp at hq; rw [show k + 2 + (dbl l).length + 1 = k + ((dbl l).length + 1 + 1) + 1 from by omega]; exact hq)]
      simp; omega
    · rw [if_neg hc] at h hq ⊢
      have h1 := (At.cons h).1
      have h3 := (At.cons h).2
      have hl : k < s.size := by have := h.le; simp at this; omega
      have h4 : s[k] = c := by rw [nx_in hl] at h1; exact UInt8.toNat_inj.1 h1
      rw [quote, dif_pos hl, if_neg (by rw [h4]; exact hc), h4, ih (k + 1) _ h3 (by simp at hq; rw [show k + 1 + (dbl l).length + 1 = k + ((dbl l).length + 1) + 1 from by omega]; exact hq)]
      simp; omega
theorem bad_at (s : ByteArray) (k n : Nat) (h1 : 1 ≤ n) (h6 : n ≤ 6) (h : At s k (badT n)) : badAt s k = some (n, (badT n).length) := by
  obtain ⟨b, hb⟩ := h.drop
  have hc : n = 1 ∨ n = 2 ∨ n = 3 ∨ n = 4 ∨ n = 5 ∨ n = 6 := by omega
  rcases hc with rfl | rfl | rfl | rfl | rfl | rfl
  all_goals (simp only [badT] at hb ⊢; simp [badAt, badList, pre, hb, List.isPrefixOf])
def lv (t : T) : Nat := if t.kd = 8 then lev t.nm.toNat else 5
section
variable (L : Lex)
def Cl (t : T) (x : List UInt8) (dp v : Nat) : Prop := ∀ s k d, At s k x → St s (k + x.length) → d + dp ≤ 30 → lev (opAt s (k + x.length)).1 ≤ v →
  nx s (tokEnd s k) ≠ 58 ∧ ∀ l, 1 ≤ l → l ≤ v → Expr L s l d k = Chain L s l d t (k + x.length)
theorem lev_41 {s : ByteArray} {k : Nat} (h : nx s k = 44 ∨ nx s k = 41 ∨ nx s k = 0) : lev (opAt s k).1 = 0 := by
  unfold opAt
  rcases h with h | h | h <;> rw [h] <;> simp [lev]
theorem St.of {s : ByteArray} {k : Nat} (h : nx s k = 44 ∨ nx s k = 41 ∨ nx s k = 0) : St s k := by
  rcases h with h | h | h <;> exact ⟨by rw [h]; decide, by rw [h]; decide, by rw [h]; decide, by rw [h]; decide, by rw [h]; decide⟩
theorem cl_operand {t : T} {x : List UInt8} {dp : Nat} (h : ∀ s k d, At s k x → St s (k + x.length) → d + dp ≤ 30 → nx s (tokEnd s k) ≠ 58 ∧ Operand L s d k = .ok t (k + x.length)) : Cl L t x dp 5 := by
  intro s k d ha hst hd hv
  have hx := h s k d ha hst hd
  refine ⟨hx.1, fun l h1 h5 => ?_⟩
  have hle := ha.le
  rw [Expr_chain L s _ l d k rfl h1 h5 (by omega), hx.2]
  rfl
/-- Nothing that is tighter follows: the node is read. -/
theorem cl_ok {t : T} {x : List UInt8} {dp v : Nat} (h : Cl L t x dp v) {s : ByteArray} {k d l : Nat} (ha : At s k x) (hst : St s (k + x.length)) (hd : d + dp ≤ 30) (h1 : 1 ≤ l) (hl : l ≤ v) (hv : lev (opAt s (k + x.length)).1 < l) :
    Expr L s l d k = .ok t (k + x.length) := by
  have hle := ha.le
  rw [(h s k d ha hst hd (by omega)).2 l h1 hl, Chain_none L s _ l d t _ rfl h1 hle (by rw [skip_at hst.b]; exact hv)]
  split
  · rfl
  · rw [skip_at hst.b]
theorem cl_bracket {t : T} {x : List UInt8} {dp v : Nat} (h : Cl L t x dp v) (hv : 1 ≤ v) : Cl L t (40 :: (x ++ [41])) (dp + 1) 5 := by
  refine cl_operand L fun s k d ha hst hd => ?_
  have h1 := ha.cons
  have h2 := h1.2.app
  have h3 := (At.cons (y := []) h2.2).1
  have e3 : nx s (k + 1 + x.length) = 41 := h3
  have hw : isW (nx s k) = false := by rw [h1.1]; decide
  have hle := ha.le
  refine ⟨by rw [tok_out hw, h1.1]; decide, ?_⟩
  have hsk : skip s k = k := skip_at (by rw [h1.1]; decide)
  have e1 : nx s k = 40 := h1.1
  have hr := cl_ok L h (d := d + 1) (l := 1) h2.1 (St.of (.inr (.inl e3))) (by omega) (by omega) hv (by rw [lev_41 (.inr (.inl e3))]; omega)
  rw [Operand_eq L s d k (by omega), hsk, if_neg (by omega), if_pos e1, if_neg (by omega), hr]
  show (if nx s (skip s (k + 1 + x.length)) = 41 then _ else _) = _
  rw [skip_at (by omega), if_pos e3]
  simp; omega
theorem lv_le (t : T) : lv t ≤ 5 := by unfold lv; split; have := lev_le t.nm.toNat; omega; omega
theorem cl_opd {t : T} {x : List UInt8} {dp : Nat} (h : Cl L t x dp (lv t)) (hv : 1 ≤ lv t) (l0 : Nat) (h5 : l0 ≤ 5) : ∃ v, l0 ≤ v ∧ Cl L t (brk l0 t x) (brd l0 t dp) v := by
  unfold brk brd
  by_cases hl : loose l0 t = true
  · rw [if_pos hl, if_pos hl]; exact ⟨5, h5, cl_bracket L h hv⟩
  · rw [if_neg hl, if_neg hl]
    refine ⟨lv t, ?_, h⟩
    unfold loose at hl
    unfold lv
    split
    · next c => simp [c] at hl; exact hl
    · exact h5
theorem hd_brk {l : Nat} {t : T} {x : List UInt8} (h : Hd x) : Hd (brk l t x) := by
  unfold brk
  split
  · exact ⟨40, _, rfl, by simp⟩
  · exact h
theorem tokAt58 {s : ByteArray} {k : Nat} {x : List UInt8} (ha : At s k x) (hw : ∀ c ∈ x, isW c.toNat = true) (hst : St s (k + x.length)) : nx s (tokEnd s k) ≠ 58 := by
  rw [tok_at ha hw hst.w]; exact hst.c
theorem word_read {s : ByteArray} {k d : Nat} {x : List UInt8} {t : T} (ha : At s k x) (hw : ∀ c ∈ x, isW c.toNat = true) (hne : x ≠ []) (hst : St s (k + x.length)) (hm : L.mean ⟨x.toArray⟩ = some t) : Operand L s d k = .ok t (k + x.length) := by
  cases x with
  | nil => exact absurd rfl hne
  | cons c x =>
    have h1 := ha.cons
    have hc := hw c (by simp)
    rw [← h1.1] at hc
    have hx : nx s k ≠ 32 ∧ nx s k ≠ 45 ∧ nx s k ≠ 40 ∧ nx s k ≠ 34 ∧ nx s k ≠ 35 := by
      refine ⟨?_, ?_, ?_, ?_, ?_⟩ <;> intro e <;> rw [e] at hc <;> simp [isW] at hc
    have hle := ha.le
    have ht := tok_at ha hw hst.w
    rw [Operand_eq L s d k (by omega), skip_at hx.1, if_neg hx.2.1, if_neg hx.2.2.1, if_neg hx.2.2.2.1, if_neg hx.2.2.2.2, ht, if_neg (fun e => hst.p e.2)]
    rw [show tok s k = ⟨(c :: x).toArray⟩ from by unfold tok; rw [ht]; exact extract_at ha, hm]
theorem hd_word {x : List UInt8} (hw : ∀ c ∈ x, isW c.toNat = true) (hne : x ≠ []) : Hd x := by
  cases x with
  | nil => exact absurd rfl hne
  | cons c x => exact ⟨c, x, rfl, .inl (hw c (by simp))⟩
/-- What an argument is read as. -/
def ArgOK (t : T) (x : List UInt8) (dp : Nat) : Prop := ∀ s k d, At s k x → (nx s (k + x.length) = 44 ∨ nx s (k + x.length) = 41) → d + dp ≤ 30 → Arg L s d k = .ok t (k + x.length)
theorem arg_cl {t : T} {x : List UInt8} {dp v : Nat} (h : Cl L t x dp v) (hv : 1 ≤ v) (hh : Hd x) : ArgOK L t x dp := by
  intro s k d ha hx hd
  have hx' : nx s (k + x.length) = 44 ∨ nx s (k + x.length) = 41 ∨ nx s (k + x.length) = 0 := by rcases hx with h | h <;> simp [h]
  have hle := ha.le
  have h58 := (h s k d ha (St.of hx') hd (by rw [lev_41 hx']; omega)).1
  have hr := cl_ok L h (l := 1) ha (St.of hx') hd (by omega) hv (by rw [lev_41 hx']; omega)
  rw [Arg_eq L s d k (by omega), skip_at (hh.ne ha).1]
  split
  · exact hr
  · rw [if_neg h58]; exact hr
theorem argW_box {K : Ink} (F : Fit L K) {r t : Rf} (hr : K.okR r) (ht : K.okR t) : ArgOK L (.nd 6 0 nul r t []) (K.ref r ++ 58 :: K.ref t) 0 := by
  intro s k d ha hx hd
  have h1 := ha.app
  have h2 := h1.2.cons
  have hle := ha.le
  have hw : isW (nx s (k + (K.ref r).length)) = false := by rw [h2.1]; decide
  have e1 := tok_at h1.1 (F.refW r hr) hw
  have e2 : tokEnd s (k + (K.ref r).length + 1) = k + (K.ref r).length + 1 + (K.ref t).length := tok_at h2.2 (F.refW t ht) (by
    rw [show k + (K.ref r).length + 1 + (K.ref t).length = k + (K.ref r ++ 58 :: K.ref t).length from by simp; omega]
    rcases hx with h | h <;> rw [h] <;> decide)
  have hsk := ((hd_word (F.refW r hr) (F.refE r hr)).ne h1.1).1
  have t1 : tok s k = ⟨(K.ref r).toArray⟩ := by unfold tok; rw [e1]; exact extract_at h1.1
  have t2 : tok s (k + (K.ref r).length + 1) = ⟨(K.ref t).toArray⟩ := by unfold tok; rw [e2]; exact extract_at h2.2
  rw [Arg_eq L s d k (by omega), skip_at hsk, t1, F.refR r hr]
  show (if nx s (tokEnd s k) = 58 then _ else _) = _
  rw [e1, if_pos (by rw [h2.1]; rfl), t2, F.refR t ht]
  show Rs.ok _ (tokEnd s _) = _
  rw [e2]
  simp [tBox]; omega
theorem commas_cons (x : List UInt8) (xs : List (List UInt8)) : commas (x :: xs) = x ++ xs.flatMap (fun y => 44 :: y) := by
  induction xs generalizing x with
  | nil => simp [commas]
  | cons y ys ih => rw [commas, ih]; simp
theorem more_at (s : ByteArray) (d : Nat) : ∀ (ts : List T) (xs : List (List UInt8)) (acc : List T) (k : Nat), xs.length = ts.length →
    (∀ (i : Nat) t x, ts[i]? = some t → xs[i]? = some x → ∃ dp, d + dp ≤ 30 ∧ ArgOK L t x dp) →
    At s k (xs.flatMap (fun y => 44 :: y) ++ [41]) → More L s d acc k = .ok (acc ++ ts) (k + (xs.flatMap (fun y => 44 :: y)).length + 1) := by
  intro ts
  induction ts with
  | nil =>
    intro xs acc k hl _ ha
    cases xs with
    | cons => simp at hl
    | nil =>
      have h1 : nx s k = 41 := (At.cons (y := []) ha).1
      have hle := ha.le
      rw [More_eq L s d acc k (by omega), skip_at (by omega), if_neg (by omega), if_pos h1]
      simp
  | cons t ts ih =>
    intro xs acc k hl hA ha
    cases xs with
    | nil => simp at hl
    | cons x xs =>
      simp only [List.flatMap_cons, List.cons_append, List.append_assoc] at ha
      have h1 := ha.cons
      have h2 := h1.2.app
      have hle := ha.le
      have hn : nx s (k + 1 + x.length) = 44 ∨ nx s (k + 1 + x.length) = 41 := by
        cases xs with
        | nil => exact .inr (At.cons (y := []) h2.2).1
        | cons y ys => simp only [List.flatMap_cons, List.cons_append] at h2; exact .inl h2.2.cons.1
      obtain ⟨dp, hdp, hok⟩ := hA 0 t x (by simp) (by simp)
      have e1 : nx s k = 44 := h1.1
      rw [More_eq L s d acc k (by omega), skip_at (by omega), if_pos e1, hok s (k + 1) d h2.1 hn hdp]
      show More L s d (acc ++ [t]) (k + 1 + x.length) = _
      rw [ih xs (acc ++ [t]) _ (by simpa using hl) (fun i t x h1 h2 => hA (i + 1) t x (by simpa using h1) (by simpa using h2)) h2.2]
      simp; omega
theorem args_at (s : ByteArray) (d k : Nat) (ts : List T) (xs : List (List UInt8)) (hl : xs.length = ts.length)
    (hA : ∀ (i : Nat) t x, ts[i]? = some t → xs[i]? = some x → Hd x ∧ ∃ dp, d + dp ≤ 30 ∧ ArgOK L t x dp) (ha : At s k (commas xs ++ [41])) :
    Args L s d k = .ok ts (k + (commas xs).length + 1) := by
  have hle := ha.le
  cases xs with
  | nil =>
    cases ts with
    | cons => simp at hl
    | nil =>
      have h1 : nx s k = 41 := (At.cons (y := []) ha).1
      rw [Args_eq L s d k (by omega), skip_at (by omega), if_pos h1]
      simp [commas]
  | cons x xs =>
    cases ts with
    | nil => simp at hl
    | cons t ts =>
      rw [commas_cons] at ha ⊢
      simp only [List.append_assoc] at ha
      have h2 := ha.app
      have hn : nx s (k + x.length) = 44 ∨ nx s (k + x.length) = 41 := by
        cases xs with
        | nil => exact .inr (At.cons (y := []) h2.2).1
        | cons y ys => simp only [List.flatMap_cons, List.cons_append] at h2; exact .inl h2.2.cons.1
      obtain ⟨hh, dp, hdp, hok⟩ := hA 0 t x (by simp) (by simp)
      have hne := hh.ne h2.1
      rw [Args_eq L s d k (by omega), skip_at hne.1, if_neg hne.2.2.2.1, hok s k d h2.1 hn hdp]
      show More L s d [t] (k + x.length) = _
      rw [more_at L s d ts xs [t] _ (by simpa using hl) (fun i t x h1 h2 => (hA (i + 1) t x (by simpa using h1) (by simpa using h2)).2) h2.2]
      simp; omega
theorem lv_pos {K : Ink} {t : T} {x : List UInt8} {dp : Nat} (h : W K t x dp) : 1 ≤ lv t := by
  unfold lv
  split
  · next c =>
    cases h <;> simp [T.kd] at c
    rename_i h1 h11 _ _ _ _
    exact lev_pos (by simp [T.nm]; omega)
  · omega
theorem foldr_max (ds : List Nat) : ∀ (i : Nat) d, ds[i]? = some d → d ≤ ds.foldr max 0 := by
  induction ds with
  | nil => intro i d h; simp at h
  | cons a ds ih =>
    intro i d h
    cases i with
    | zero => simp at h; subst h; simp; omega
    | succ i => have := ih i d (by simpa using h); simp; omega
theorem isNm_word {name : ByteArray} (h : isNm name = true) : (∀ c ∈ name.data.toList, isW c.toNat = true) ∧ name.data.toList ≠ [] := by
  unfold isNm at h
  rw [Bool.and_eq_true, Bool.and_eq_true, List.all_eq_true, decide_eq_true_eq, decide_eq_true_eq] at h
  refine ⟨fun c hc => ?_, fun e => ?_⟩
  · have := h.2 c hc
    simp at this
    simp [isW]; omega
  · have : name.size = 0 := by show name.data.size = 0; rw [← Array.length_toList, e]; rfl
    omega
/-- WHAT IS WRITTEN IS READ AS IT WAS. -/
theorem read_back {K : Ink} (F : Fit L K) {t : T} {x : List UInt8} {dp : Nat} (h : W K t x dp) : Hd x ∧ (t.kd ≠ 6 → Cl L t x dp (lv t)) ∧ ArgOK L t x dp := by
  induction h with
  | @num n h0 h1 =>
    have hh := hd_word (F.numW n h0) (F.numE n h0)
    have hc : Cl L (.nd 1 n nul .z .z []) (K.num n) 0 5 := cl_operand L fun s k d ha hst hd => ⟨tokAt58 ha (F.numW n h0) hst, word_read L ha (F.numW n h0) (F.numE n h0) hst (F.numM n h0 h1)⟩
    exact ⟨hh, fun _ => hc, arg_cl L hc (by omega) hh⟩
  | @text s0 hs =>
    have hh : Hd (34 :: (dbl s0.data.toList ++ [34])) := ⟨34, _, rfl, by simp⟩
    have hc : Cl L (.nd 2 0 s0 .z .z []) (34 :: (dbl s0.data.toList ++ [34])) 0 5 := cl_operand L fun s k d ha hst hd => by
      have h1 := ha.cons
      have e1 : nx s k = 34 := h1.1
      have hle := ha.le
      have hq := quote_at s s0.data.toList (k + 1) [] h1.2 (by
        have := hst.q
        rw [show k + 1 + (dbl s0.data.toList).length + 1 = k + (34 :: (dbl s0.data.toList ++ [34])).length from by simp; omega]
        exact this)
      refine ⟨by rw [tok_out (by rw [e1]; decide), e1]; decide, ?_⟩
      rw [Operand_eq L s d k (by omega), skip_at (by omega), if_neg (by omega), if_neg (by omega), if_pos e1, hq]
      simp [tText]; omega
    exact ⟨hh, fun _ => hc, arg_cl L hc (by omega) hh⟩
  | @truth n hn =>
    have hw : ∀ c ∈ truT n, isW c.toNat = true := by rcases hn with rfl | rfl <;> decide
    have hne : truT n ≠ [] := by rcases hn with rfl | rfl <;> decide
    have hh := hd_word hw hne
    have hc : Cl L (.nd 3 n nul .z .z []) (truT n) 0 5 := cl_operand L fun s k d ha hst hd => ⟨tokAt58 ha hw hst, word_read L ha hw hne hst (F.truM n hn)⟩
    exact ⟨hh, fun _ => hc, arg_cl L hc (by omega) hh⟩
  | @bad n h1 h6 =>
    have hb : ∃ y, badT n = 35 :: y := by
      have hc : n = 1 ∨ n = 2 ∨ n = 3 ∨ n = 4 ∨ n = 5 ∨ n = 6 := by omega
      rcases hc with rfl | rfl | rfl | rfl | rfl | rfl <;> exact ⟨_, rfl⟩
    obtain ⟨y, hy⟩ := hb
    have hh : Hd (badT n) := ⟨35, y, hy, by simp⟩
    have hc : Cl L (.nd 4 n nul .z .z []) (badT n) 0 5 := cl_operand L fun s k d ha hst hd => by
      have e1 : nx s k = 35 := by have := ha; rw [hy] at this; exact this.cons.1
      have hle := ha.le
      refine ⟨by rw [tok_out (by rw [e1]; decide), e1]; decide, ?_⟩
      rw [Operand_eq L s d k (by omega), skip_at (by omega), if_neg (by omega), if_neg (by omega), if_neg (by omega), if_pos e1, bad_at s k n h1 h6 ha]
      rfl
    exact ⟨hh, fun _ => hc, arg_cl L hc (by omega) hh⟩
  | @ref r hr =>
    have hh := hd_word (F.refW r hr) (F.refE r hr)
    have hc : Cl L (.nd 5 0 nul r .z []) (K.ref r) 0 5 := cl_operand L fun s k d ha hst hd => ⟨tokAt58 ha (F.refW r hr) hst, word_read L ha (F.refW r hr) (F.refE r hr) hst (F.refM r hr)⟩
    exact ⟨hh, fun _ => hc, arg_cl L hc (by omega) hh⟩
  | @box r t hr ht =>
    refine ⟨?_, fun h => absurd rfl h, argW_box L F hr ht⟩
    obtain ⟨c, y, e, hc⟩ := hd_word (F.refW r hr) (F.refE r hr)
    exact ⟨c, y ++ 58 :: K.ref t, by rw [e]; rfl, hc⟩
  | @neg a x d ha h ih =>
    have hh : Hd (45 :: brk 5 a x) := ⟨45, _, rfl, by simp⟩
    obtain ⟨v, hv, hc0⟩ := cl_opd L (ih.2.1 ha) (lv_pos h) 5 (by omega)
    have hc : Cl L (.nd 7 0 nul .z .z [a]) (45 :: brk 5 a x) (brd 5 a d + 1) 5 := cl_operand L fun s k e ha hst hd => by
      have h1 := ha.cons
      have e1 : nx s k = 45 := h1.1
      have hle := ha.le
      simp only [List.length_cons] at hle
      have hst' : St s (k + 1 + (brk 5 a x).length) := by rw [show k + 1 + (brk 5 a x).length = k + (45 :: brk 5 a x).length from by simp; omega]; exact hst
      have hr := cl_ok L hc0 (d := e + 1) (l := 5) h1.2 hst' (by omega) (by omega) hv (by have := lev_le (opAt s (k + 1 + (brk 5 a x).length)).1; omega)
      rw [Expr_five L s _ _ (by omega)] at hr
      refine ⟨by rw [tok_out (by rw [e1]; decide), e1]; decide, ?_⟩
      rw [Operand_eq L s e k (by omega), skip_at (by omega), if_pos e1, if_neg (by omega), hr]
      show Rs.ok (tNeg a) _ = _
      simp [tNeg]; omega
    exact ⟨hh, fun _ => hc, arg_cl L hc (by omega) hh⟩
  | @two op a b x y d e h1 h11 ha hb hx hy ihx ihy =>
    have hle4 := lev_le op
    have hpos := lev_pos (op := op) (by omega)
    obtain ⟨v1, hv1, c1⟩ := cl_opd L (ihx.2.1 ha) (lv_pos hx) (lev op) (by omega)
    obtain ⟨v2, hv2, c2⟩ := cl_opd L (ihy.2.1 hb) (lv_pos hy) (lev op + 1) (by omega)
    have hha : Hd (brk (lev op) a x) := hd_brk ihx.1
    have hhb : Hd (brk (lev op + 1) b y) := hd_brk ihy.1
    have hh : Hd (brk (lev op) a x ++ opT op ++ brk (lev op + 1) b y) := by
      obtain ⟨c, r, e, hc⟩ := hha
      exact ⟨c, r ++ opT op ++ brk (lev op + 1) b y, by rw [e]; simp, hc⟩
    have hlv : lv (.nd 8 op nul .z .z [a, b]) = lev op := by simp [lv, T.kd, T.nm]
    have hc : Cl L (.nd 8 op nul .z .z [a, b]) (brk (lev op) a x ++ opT op ++ brk (lev op + 1) b y) (max (brd (lev op) a d) (brd (lev op + 1) b e)) (lev op) := by
      intro s k d0 hat hst hd hv
      have hle := hat.le
      have hat' : At s k (brk (lev op) a x ++ (opT op ++ brk (lev op + 1) b y)) := by rw [← List.append_assoc]; exact hat
      have s1 := hat'.app
      have s2 := s1.2.app
      have ho := op_at h1 h11 s1.2 hhb
      have hnx : St s (k + (brk (lev op) a x).length) := by
        have := s1.2
        have hc : op = 1 ∨ op = 2 ∨ op = 3 ∨ op = 4 ∨ op = 5 ∨ op = 6 ∨ op = 7 ∨ op = 8 ∨ op = 9 ∨ op = 10 ∨ op = 11 := by omega
        rcases hc with rfl | rfl | rfl | rfl | rfl | rfl | rfl | rfl | rfl | rfl | rfl
        all_goals (simp only [opT, List.cons_append] at this; have q := this.cons.1; exact ⟨by rw [q]; decide, by rw [q]; decide, by rw [q]; decide, by rw [q]; decide, by rw [q]; decide⟩)
      have hlen : k + (brk (lev op) a x ++ opT op ++ brk (lev op + 1) b y).length = k + (brk (lev op) a x).length + (opT op).length + (brk (lev op + 1) b y).length := by simp; omega
      rw [hlen] at hst hv ⊢
      have r1 := c1 s k d0 s1.1 hnx (by omega) (by rw [ho]; exact hv1)
      refine ⟨r1.1, fun l hl1 hl2 => ?_⟩
      have r2 := cl_ok L c2 (d := d0) (l := lev op + 1) s2.2 hst (by omega) (by omega) hv2 (by omega)
      have hsk := skip_at hnx.b
      rw [r1.2 l hl1 (by omega), Chain_some L s _ l d0 a _ rfl hl1 (by have := s1.1.le; omega) (by rw [hsk, ho]; exact hl2), hsk, ho]
      show Rs.bind (Expr L s (lev op + 1) d0 _) _ = _
      rw [r2]
      rfl
    exact ⟨hh, fun _ => by rw [hlv]; exact hc, arg_cl L hc hpos hh⟩
  | @call name ts xs ds hn hx hd h ih =>
    have hwd := isNm_word hn
    have hh : Hd (name.data.toList ++ 40 :: (commas xs ++ [41])) := by
      obtain ⟨c, r, e, hc⟩ := hd_word hwd.1 hwd.2
      exact ⟨c, r ++ 40 :: (commas xs ++ [41]), by rw [e]; simp, hc⟩
    have hc : Cl L (.nd 9 0 name .z .z ts) (name.data.toList ++ 40 :: (commas xs ++ [41])) (ds.foldr max 0 + 1) 5 := cl_operand L fun s k e ha hst hde => by
      have s1 := ha.app
      have s2 := s1.2.cons
      have hle := ha.le
      have e2 : nx s (k + name.data.toList.length) = 40 := s2.1
      have ht := tok_at s1.1 hwd.1 (by rw [e2]; decide)
      have htk : tok s k = name := by unfold tok; rw [ht, extract_at s1.1]
      have hq := hd_word hwd.1 hwd.2
      obtain ⟨c, r, er, hcc⟩ := hq
      have hcw := hwd.1 c (by rw [er]; simp)
      have hk1 : nx s k = c.toNat := by have := s1.1; rw [er] at this; exact this.cons.1
      rw [← hk1] at hcw
      have hx4 : nx s k ≠ 32 ∧ nx s k ≠ 45 ∧ nx s k ≠ 40 ∧ nx s k ≠ 34 ∧ nx s k ≠ 35 := by
        refine ⟨?_, ?_, ?_, ?_, ?_⟩ <;> intro e <;> rw [e] at hcw <;> simp [isW] at hcw
      refine ⟨by rw [ht, e2]; decide, ?_⟩
      have hA := args_at L s (e + 1) (k + name.data.toList.length + 1) ts xs hx (fun i t x h1 h2 => by
        have hi : i < ds.length := by rw [hd]; exact (List.getElem?_eq_some_iff.1 h1).1
        have h3 : ds[i]? = some ds[i] := List.getElem?_eq_getElem hi
        have := ih i t x _ h1 h2 h3
        have hm := foldr_max ds i _ h3
        exact ⟨this.1, ds[i], by omega, this.2.2⟩) s2.2
      rw [Operand_eq L s e k (by omega), skip_at hx4.1, if_neg hx4.2.1, if_neg hx4.2.2.1, if_neg hx4.2.2.2.1, if_neg hx4.2.2.2.2, ht, htk, if_pos ⟨hn, e2⟩, if_neg (by omega), hA]
      show Rs.ok (tCall name ts) _ = _
      simp [tCall]; omega
    exact ⟨hh, fun _ => hc, arg_cl L hc (by omega) hh⟩
theorem parse_back {K : Ink} (F : Fit L K) {t : T} {x : List UInt8} {dp : Nat} (h : W K t x dp) (hk : t.kd ≠ 6) (hd : dp ≤ 30) (hs : x.length + 1 ≤ 200) : parse L ⟨(61 :: x).toArray⟩ = .ok t 0 := by
  have hb := read_back L F h
  have hsz : (⟨(61 :: x).toArray⟩ : ByteArray).size = x.length + 1 := by show (61 :: x).toArray.size = _; simp
  have hat : At ⟨(61 :: x).toArray⟩ 0 (61 :: x) := ⟨[], [], by simp, rfl⟩
  have h1 := hat.cons
  have hend : nx ⟨(61 :: x).toArray⟩ (1 + x.length) = 0 := nx_out (by rw [hsz]; omega)
  have hr := cl_ok L (hb.2.1 hk) (d := 0) (l := 1) h1.2 (St.of (.inr (.inr (by rw [Nat.zero_add]; exact hend)))) (by omega) (by omega) (lv_pos h) (by rw [Nat.zero_add, lev_41 (.inr (.inr hend))]; omega)
  unfold parse
  rw [if_neg (by omega), if_neg (by rw [h1.1]; decide)]
  rw [Nat.zero_add] at hr
  rw [hr]
  show (if skip _ (1 + x.length) < _ then _ else _) = _
  rw [skip_at (by omega), if_neg (by omega)]
end
end Go.Proofs.YtmpfknokjianbaaGreatDoor.fm
