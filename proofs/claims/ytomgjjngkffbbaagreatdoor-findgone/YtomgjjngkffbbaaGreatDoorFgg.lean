
/- What becomes of a cell whose text is replaced. Conditions: as each theorem says. -/
import Derived.Test.YtomgjjngkffbbaaGreatDoorFgc
import Derived.Test.YtomgjjngkffbbaaGreatDoorJm
namespace Go.Proofs.YtomgjjngkffbbaaGreatDoor.fw
open Go.RowKit Go.Sort
theorem cnt_zero {p : List UInt8} (hp : p ≠ []) (b s : List UInt8) (h : (cntL p b s).1 = 0) : (cntL p b s).2 = s := by
  rcases ix_two s p with h1 | ⟨i, h1⟩
  · rw [cnt_miss hp b s h1]
  · rw [cnt_hit hp b s i h1] at h
    exact absurd h (by simp)
theorem txt_self (s : ByteArray) : txt s.toList = s := by
  obtain ⟨⟨l⟩⟩ := s
  unfold txt
  rw [ByteArray.toList_eq]
/-- The text that a cell has then. -/
def ntx (p b : ByteArray) (wh : Bool) (s : ByteArray) : ByteArray := if wh = true ∧ s ≠ p then s else txt (cntL p.toList b.toList s.toList).2
theorem ntx_no {p b : ByteArray} {wh : Bool} {s : ByteArray} (hp : 1 ≤ p.size) (h : plc s p wh = 0) : ntx p b wh s = s := by
  unfold ntx
  by_cases h1 : wh = true ∧ s ≠ p
  · rw [if_pos h1]
  · rw [if_neg h1]
    have h2 : (cntL p.toList b.toList s.toList).1 = 0 := by
      unfold plc at h
      cases wh
      · rw [if_neg (by simp)] at h
        rw [cnt_fst (ne_nil hp) b.toList [] s.toList]
        exact h
      · have e : s = p := Classical.byContradiction fun hne => h1 ⟨rfl, hne⟩
        rw [if_pos rfl, if_pos e] at h
        cases h
    rw [cnt_zero (ne_nil hp) _ _ h2, txt_self]
/-- The library's Replace of as many as were found. -/
theorem ntx_repl {p b : ByteArray} {wh : Bool} {s : ByteArray} (hp : 1 ≤ p.size) : (⟨(Lib.replace s.data.toList p.data.toList b.data.toList (plc s p wh : Nat)).toArray⟩ : ByteArray) = ntx p b wh s := by
  have e0 : ∀ l : List UInt8, (⟨l.toArray⟩ : ByteArray) = txt l := fun l => rfl
  rw [e0, ← ByteArray.toList_eq, ← ByteArray.toList_eq, ← ByteArray.toList_eq]
  cases wh
  · have e1 : plc s p false = (cntL p.toList b.toList s.toList).1 := by
      unfold plc
      rw [if_neg (by simp), cnt_fst (ne_nil hp)]
    rw [e1, repl_all (ne_nil hp)]
    unfold ntx
    rw [if_neg (by simp)]
  · by_cases h : s = p
    · have e1 : plc s p true = (cntL p.toList b.toList s.toList).1 := by
        unfold plc
        rw [if_pos rfl, if_pos h, h, cnt_self (ne_nil hp)]
      rw [e1, repl_all (ne_nil hp)]
      unfold ntx
      rw [if_neg (by simp [h])]
    · have e1 : plc s p true = 0 := by unfold plc; rw [if_pos rfl, if_neg h]
      rw [e1, show ((0 : Nat) : Int) = 0 from rfl, repl_zero, txt_self]
      unfold ntx
      rw [if_pos ⟨rfl, h⟩]
/-- The first fault of a sheet in which texts are replaced. -/
def ffl (p b : ByteArray) (wh : Bool) : List ps.Fl → Int
  | [] => 0
  | x :: l => if ftx (ntx p b wh x.s) = 0 then ffl p b wh l else ftx (ntx p b wh x.s)
theorem ffl_at {p b : ByteArray} {wh : Bool} : ∀ {xs : List ps.Fl} {i : Nat} {x : ps.Fl}, xs[i]? = some x → (∀ (j : Nat) (y : ps.Fl), j < i → xs[j]? = some y → ftx (ntx p b wh y.s) = 0) → ftx (ntx p b wh x.s) ≠ 0 → ffl p b wh xs = ftx (ntx p b wh x.s)
  | [], i, x, h, _, _ => by simp at h
  | y :: l, 0, x, h, _, hf => by
    have : y = x := by simpa using h
    subst this
    unfold ffl
    rw [if_neg hf]
  | y :: l, i + 1, x, h, hl, hf => by
    unfold ffl
    rw [if_pos (hl 0 y (by omega) rfl)]
    exact ffl_at (by simpa using h) (fun j z hj hz => hl (j + 1) z (by omega) (by simpa using hz)) hf
theorem ffl_none {p b : ByteArray} {wh : Bool} : ∀ {xs : List ps.Fl}, (∀ (j : Nat) (y : ps.Fl), xs[j]? = some y → ftx (ntx p b wh y.s) = 0) → ffl p b wh xs = 0
  | [], _ => rfl
  | y :: l, h => by
    unfold ffl
    rw [if_pos (h 0 y rfl)]
    exact ffl_none fun j z hz => h (j + 1) z (by simpa using hz)
/-- The sheet then. -/
def rpl (p b : ByteArray) (wh : Bool) (xs : List ps.Fl) : List ps.Fl := xs.flatMap fun x => if (ntx p b wh x.s).size = 0 then [] else [⟨x.c, x.r, ntx p b wh x.s⟩]
theorem rpl_snoc (p b : ByteArray) (wh : Bool) (xs : List ps.Fl) (x : ps.Fl) : rpl p b wh (xs ++ [x]) = rpl p b wh xs ++ (if (ntx p b wh x.s).size = 0 then [] else [⟨x.c, x.r, ntx p b wh x.s⟩]) := by
  unfold rpl
  rw [List.flatMap_append]
  simp
theorem rpl_len (p b : ByteArray) (wh : Bool) (xs : List ps.Fl) : (rpl p b wh xs).length ≤ xs.length := by
  unfold rpl
  induction xs with
  | nil => simp
  | cons x xs ih =>
    rw [List.flatMap_cons, List.length_append, List.length_cons]
    by_cases h : (ntx p b wh x.s).size = 0
    · rw [if_pos h]; simp only [List.length_nil]; omega
    · rw [if_neg h]; simp only [List.length_singleton]; omega
/-- How many were replaced. -/
def tot (p : ByteArray) (wh : Bool) (xs : List ps.Fl) : Nat := (xs.map fun x => plc x.s p wh).sum
theorem tot_snoc (p : ByteArray) (wh : Bool) (xs : List ps.Fl) (x : ps.Fl) : tot p wh (xs ++ [x]) = tot p wh xs + plc x.s p wh := by
  unfold tot
  rw [List.map_append, List.sum_append]
  simp
theorem plc_le (s p : ByteArray) (wh : Bool) : plc s p wh ≤ s.size + 1 := by
  unfold plc
  cases wh
  · rw [if_neg (by simp)]
    have := (cnt_le p.toList [] _ s.toList (Nat.le_refl _)).1
    rw [size_list] at this
    omega
  · rw [if_pos rfl]
    by_cases h : s = p
    · rw [if_pos h]; omega
    · rw [if_neg h]; omega
theorem tot_le (p : ByteArray) (wh : Bool) (xs : List ps.Fl) (h : ∀ x ∈ xs, x.s.size ≤ 200) : tot p wh xs ≤ xs.length * 201 := by
  unfold tot
  induction xs with
  | nil => simp
  | cons x xs ih =>
    have h1 := ih fun y hy => h y (List.mem_cons_of_mem _ hy)
    have h2 := plc_le x.s p wh
    have h3 := h x List.mem_cons_self
    rw [List.map_cons, List.sum_cons, List.length_cons]
    omega
/-- The program's Check of a cell of the sheet with its new text. -/
theorem scheck_is (c r : Int) (s : ByteArray) (w : World) (hE : ps.EnvP w) (hc : adr.isC c r = true) :
    Calls Tryz.prog 37 #[.agg #[.int .i64 c, .int .i64 r], .string s] w fun e w' => e = .returned (ps.errV (ftx s)) ∧ Bw w w' := by
  refine (ps.scheck_any ⟨c, r, s⟩ w hE).mono ?_
  rintro e w' ⟨⟨t, rfl, ht⟩, hb⟩
  refine ⟨?_, hb⟩
  have e1 : t = ftx s := by
    refine ht.one ?_
    unfold ftx
    by_cases h : s.size = 0
    · rw [if_pos h]
      exact .inl ⟨h, by dsimp only; rw [if_pos hc]⟩
    · rw [if_neg h]
      refine .inr ⟨h, ?_⟩
      have h1 : ([⟨c, r, s⟩] : List ps.Fl)[0]? = some ⟨c, r, s⟩ := rfl
      have h2 := ps.cd_text h1 hc rfl
      dsimp only at h2
      by_cases h3 : ps.ckT s = 0
      · rw [h3]
        refine .inr ⟨by simp, .inl ⟨rfl, fun i hi => ?_⟩⟩
        have : i = 0 := by simp at hi; exact hi
        subst this
        rw [h2, h3]
      · exact .inr ⟨by simp, .inr ⟨h3, 0, by simp, h2, fun j hj => by omega⟩⟩
  rw [e1]
end Go.Proofs.YtomgjjngkffbbaaGreatDoor.fw
