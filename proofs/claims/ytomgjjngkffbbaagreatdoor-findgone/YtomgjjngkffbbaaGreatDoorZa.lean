
/- A sheet as a list of cells with their texts: what stands where, one text more. Nothing is walked here. -/
import Derived.Test.YtomgjjngkffbbaaGreatDoorHold
namespace Go.Proofs.YtomgjjngkffbbaaGreatDoor.ps
/-- A cell with its text. -/
structure Fl where
  c : Int
  r : Int
  s : ByteArray
/-- Which of two cells stands ahead. -/
def cmpC (c1 r1 c2 r2 : Int) : Int := if r1 < r2 then -1 else if r2 < r1 then 1 else if c1 < c2 then -1 else if c2 < c1 then 1 else 0
def lt (x : Fl) (c r : Int) : Bool := decide (cmpC x.c x.r c r < 0)
def at' (x : Fl) (c r : Int) : Bool := decide (cmpC x.c x.r c r = 0)
theorem cmpC_zero {a b c d : Int} : cmpC a b c d = 0 ↔ a = c ∧ b = d := by
  unfold cmpC; split <;> (try split) <;> (try split) <;> (try split) <;> omega
theorem cmpC_neg (a b c d : Int) : cmpC a b c d = -cmpC c d a b := by
  unfold cmpC; repeat' split
  all_goals omega
theorem cmpC_lt {a b c d : Int} : cmpC a b c d < 0 ↔ b < d ∨ (b = d ∧ a < c) := by
  unfold cmpC; repeat' split
  all_goals omega
theorem lt_iff {x : Fl} {c r : Int} : lt x c r = true ↔ x.r < r ∨ (x.r = r ∧ x.c < c) := by unfold lt; rw [decide_eq_true_eq, cmpC_lt]
theorem lt_no {x : Fl} {c r : Int} : lt x c r = false ↔ ¬ (x.r < r ∨ (x.r = r ∧ x.c < c)) := by rw [← lt_iff]; simp
theorem at_iff {x : Fl} {c r : Int} : at' x c r = true ↔ x.c = c ∧ x.r = r := by unfold at'; rw [decide_eq_true_eq, cmpC_zero]
theorem at_no {x : Fl} {c r : Int} : at' x c r = false ↔ ¬ (x.c = c ∧ x.r = r) := by rw [← at_iff]; simp
/-- The list, as cells stand. -/
def Srt (l : List Fl) : Prop := l.Pairwise fun x y => lt x y.c y.r = true
/-- No text is empty. -/
def Ful (l : List Fl) : Prop := ∀ x ∈ l, x.s.size ≠ 0
def put (f : Fl) : List Fl := if f.s.size = 0 then [] else [f]
/-- The list with another text of one cell. -/
def wt : List Fl → Fl → List Fl
  | [], f => put f
  | x :: l, f => if lt x f.c f.r = true then x :: wt l f else if at' x f.c f.r = true then put f ++ l else put f ++ x :: l
/-- A cell's text. -/
def txt : List Fl → Int → Int → ByteArray
  | [], _, _ => nul
  | x :: l, c, r => if at' x c r = true then x.s else txt l c r
theorem size_nul {s : ByteArray} (h : s.size = 0) : s = nul := by
  obtain ⟨⟨l⟩⟩ := s
  have : l = [] := List.length_eq_zero_iff.1 h
  subst this
  rfl
theorem put_nul {f : Fl} (h : f.s.size = 0) : put f = [] := if_pos h
theorem put_one {f : Fl} (h : f.s.size ≠ 0) : put f = [f] := if_neg h
theorem txt_none {l : List Fl} {c r : Int} (h : ∀ x ∈ l, at' x c r = false) : txt l c r = nul := by
  induction l with
  | nil => rfl
  | cons x l ih => unfold txt; rw [if_neg (by simp [h x (by simp)])]; exact ih (fun y hy => h y (by simp [hy]))
theorem wt_back {l : List Fl} (hs : Srt l) (hf : Ful l) (f : Fl) : wt (wt l f) ⟨f.c, f.r, txt l f.c f.r⟩ = l := by
  induction l with
  | nil =>
    show wt (put f) ⟨f.c, f.r, nul⟩ = []
    by_cases h : f.s.size = 0
    · rw [put_nul h]; rfl
    · rw [put_one h]
      unfold wt
      rw [if_neg (by rw [lt_iff]; dsimp only; omega), if_pos (by rw [at_iff]; exact ⟨rfl, rfl⟩), put_nul rfl]
      rfl
  | cons x l ih =>
    have hs' := List.pairwise_cons.1 hs
    have hf' : Ful l := fun y hy => hf y (by simp [hy])
    by_cases h1 : lt x f.c f.r = true
    · have e1 : wt (x :: l) f = x :: wt l f := by show (if _ then _ else _) = _; rw [if_pos h1]
      have h2 : at' x f.c f.r = false := by rw [at_no]; rw [lt_iff] at h1; omega
      have e2 : txt (x :: l) f.c f.r = txt l f.c f.r := by show (if _ then _ else _) = _; rw [if_neg (by simp [h2])]
      rw [e1, e2]
      show (if _ then _ else _) = _
      rw [if_pos h1, ih hs'.2 hf']
    · by_cases h2 : at' x f.c f.r = true
      · have e1 : wt (x :: l) f = put f ++ l := by show (if _ then _ else _) = _; rw [if_neg h1, if_pos h2]
        have e2 : txt (x :: l) f.c f.r = x.s := by show (if _ then _ else _) = _; rw [if_pos h2]
        rw [e1, e2]
        have hx := at_iff.1 h2
        have hxs := hf x (by simp)
        have hxe : (⟨f.c, f.r, x.s⟩ : Fl) = x := by rw [← hx.1, ← hx.2]
        by_cases h : f.s.size = 0
        · rw [put_nul h, List.nil_append, hxe]
          cases l with
          | nil => show put x = _; rw [put_one hxs]
          | cons y l =>
            have hy := hs'.1 y (by simp)
            rw [lt_iff] at hy
            show (if _ then _ else _) = _
            rw [if_neg (by rw [lt_iff]; omega), if_neg (by rw [at_iff]; omega), put_one hxs]
            rfl
        · rw [put_one h, List.singleton_append, hxe]
          show (if _ then _ else _) = _
          rw [if_neg (by rw [lt_iff]; omega), if_pos (by rw [at_iff]; exact ⟨hx.1.symm, hx.2.symm⟩), put_one hxs]
          rfl
      · have e1 : wt (x :: l) f = put f ++ x :: l := by show (if _ then _ else _) = _; rw [if_neg h1, if_neg h2]
        have e2 : txt (x :: l) f.c f.r = nul := txt_none (fun y hy => by
          rw [at_no]
          rw [lt_iff] at h1
          rw [at_iff] at h2
          rcases List.mem_cons.1 hy with rfl | hy
          · exact h2
          · have := hs'.1 y hy
            rw [lt_iff] at this
            omega)
        rw [e1, e2]
        have g1 : ¬ lt x f.c f.r = true := h1
        by_cases h : f.s.size = 0
        · rw [put_nul h, List.nil_append]
          show (if _ then _ else _) = _
          rw [if_neg h1, if_neg h2, put_nul rfl]
          rfl
        · rw [put_one h, List.singleton_append]
          show (if _ then _ else _) = _
          rw [if_neg (by rw [lt_iff]; dsimp only; omega), if_pos (by rw [at_iff]; exact ⟨rfl, rfl⟩), put_nul rfl]
          rfl
theorem put_in {f x : Fl} (h : x ∈ put f) : x = f ∧ f.s.size ≠ 0 := by
  unfold put at h
  split at h
  · simp at h
  · simp at h; exact ⟨h, by assumption⟩
theorem wt_in {l : List Fl} {f x : Fl} (h : x ∈ wt l f) : x ∈ l ∨ (x = f ∧ f.s.size ≠ 0) := by
  induction l with
  | nil => exact .inr (put_in h)
  | cons y l ih =>
    by_cases h1 : lt y f.c f.r = true
    · rw [show wt (y :: l) f = y :: wt l f by show (if _ then _ else _) = _; rw [if_pos h1]] at h
      rcases List.mem_cons.1 h with rfl | h
      · exact .inl (by simp)
      · rcases ih h with h | h
        · exact .inl (by simp [h])
        · exact .inr h
    · by_cases h2 : at' y f.c f.r = true
      · rw [show wt (y :: l) f = put f ++ l by show (if _ then _ else _) = _; rw [if_neg h1, if_pos h2]] at h
        rcases List.mem_append.1 h with h | h
        · exact .inr (put_in h)
        · exact .inl (by simp [h])
      · rw [show wt (y :: l) f = put f ++ y :: l by show (if _ then _ else _) = _; rw [if_neg h1, if_neg h2]] at h
        rcases List.mem_append.1 h with h | h
        · exact .inr (put_in h)
        · exact .inl h
theorem wt_ful {l : List Fl} (h : Ful l) (f : Fl) : Ful (wt l f) := fun x hx => by
  rcases wt_in hx with hx | ⟨rfl, hx⟩
  · exact h x hx
  · exact hx
theorem wt_srt {l : List Fl} (h : Srt l) (f : Fl) : Srt (wt l f) := by
  induction l with
  | nil => show Srt (put f); unfold put; split <;> simp [Srt]
  | cons x l ih =>
    have hs' := List.pairwise_cons.1 h
    by_cases h1 : lt x f.c f.r = true
    · rw [show wt (x :: l) f = x :: wt l f by show (if _ then _ else _) = _; rw [if_pos h1]]
      refine List.pairwise_cons.2 ⟨fun y hy => ?_, ih hs'.2⟩
      rcases wt_in hy with hy | ⟨rfl, -⟩
      · exact hs'.1 y hy
      · exact h1
    · by_cases h2 : at' x f.c f.r = true
      · rw [show wt (x :: l) f = put f ++ l by show (if _ then _ else _) = _; rw [if_neg h1, if_pos h2]]
        refine List.pairwise_append.2 ⟨by unfold put; split <;> simp, hs'.2, fun a ha b hb => ?_⟩
        obtain ⟨rfl, -⟩ := put_in ha
        have := hs'.1 b hb
        rw [lt_iff] at this ⊢
        rw [at_iff] at h2
        omega
      · rw [show wt (x :: l) f = put f ++ x :: l by show (if _ then _ else _) = _; rw [if_neg h1, if_neg h2]]
        refine List.pairwise_append.2 ⟨by unfold put; split <;> simp, h, fun a ha b hb => ?_⟩
        obtain ⟨rfl, -⟩ := put_in ha
        rw [lt_iff] at h1 ⊢
        rw [at_iff] at h2
        rcases List.mem_cons.1 hb with rfl | hb
        · omega
        · have := hs'.1 b hb
          rw [lt_iff] at this
          omega
/-- Where a list parts: so many stand ahead, and the next does not. -/
theorem wt_at {l : List Fl} {f : Fl} {k : Nat} (hk : k ≤ l.length) (h : ∀ i x, i < k → l[i]? = some x → lt x f.c f.r = true) : wt l f = l.take k ++ wt (l.drop k) f := by
  induction k generalizing l with
  | zero => rfl
  | succ k ih =>
    cases l with
    | nil => simp at hk
    | cons x l =>
      have h1 := h 0 x (by omega) rfl
      rw [show wt (x :: l) f = x :: wt l f by show (if _ then _ else _) = _; rw [if_pos h1]]
      simp only [List.take_succ_cons, List.drop_succ_cons, List.cons_append]
      rw [← ih (by simpa using hk) (fun i y hi hy => h (i + 1) y (by omega) (by simpa using hy))]
theorem txt_at {l : List Fl} (hs : Srt l) {i : Nat} {x : Fl} (hx : l[i]? = some x) : txt l x.c x.r = x.s := by
  induction l generalizing i with
  | nil => simp at hx
  | cons y l ih =>
    have hs' := List.pairwise_cons.1 hs
    cases i with
    | zero =>
      simp at hx
      subst hx
      show (if _ then _ else _) = _
      rw [if_pos (by rw [at_iff]; exact ⟨rfl, rfl⟩)]
    | succ i =>
      simp at hx
      have := hs'.1 x (List.mem_of_getElem? hx)
      rw [lt_iff] at this
      show (if _ then _ else _) = _
      rw [if_neg (by rw [at_iff]; omega)]
      exact ih hs'.2 hx
end Go.Proofs.YtomgjjngkffbbaaGreatDoor.ps
