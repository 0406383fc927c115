
/- Package book: the cells of a sheet as a map: what a cell gets, and how many there are; plain, and by the laws of maps. Conditions: as each theorem says. -/
import Derived.Test.YtokfijkhflfioaaGreatDoorMpg
import Derived.Test.YtokfijkhflfioaaGreatDoorBki
import Derived.DeepKeys4
namespace Go.Proofs.YtokfijkhflfioaaGreatDoor.fw
open Go Go.RowKit Go.Sort Go.Maps
theorem bk_laid : laidOutB Tryz.prog = true := by kernel_rfl
theorem key23 : Keyed Tryz.prog 23 := Keyed.of_law (Go.deep_law_laid bk_laid (m := 5) (by decide) (of_decide_eq_true (by kernel_rfl)) (by kernel_rfl) (by kernel_rfl))
abbrev kvF (x : ps.Fl) : Value := adr.C x.c x.r
noncomputable def klF (x : ps.Fl) : Lit := (keyOf Tryz.prog 23 (kvF x)).getD (.bool false)
theorem vcof2 : Tryz.prog.cellsOf 23 = 2 := by kernel_rfl
theorem vcofi : Tryz.prog.cellsOf 3 = 1 := by kernel_rfl
theorem ktype : Tryz.prog.keyType 23 = true := by kernel_rfl
set_option maxRecDepth 100000 in
theorem key_some (c r : Int) (hc : (Lit.int .i64 c).wf = true) (hr : (Lit.int .i64 r).wf = true) : ∃ l, keyOf Tryz.prog 23 (adr.C c r) = some l := by
  have hsz : Tryz.prog.types.size + 1 = 270 + 1 + 1 := by kernel_rfl
  have hi : ∀ n : Int, (Lit.int .i64 n).wf = true → Tryz.prog.keyLits (270 + 1) 3 [.int .i64 n] = some [.int .i64 n] := fun n hn => by
    unfold Program.keyLits
    simp only [Tryz.underlying3]
    rw [if_pos ⟨trivial, hn⟩]
  unfold keyOf
  simp only [Tryz.underlying23, ktype, Value.formed, vcof2, Bool.true_and]
  rw [hsz]
  unfold Program.keyLits
  simp only [Tryz.underlying23, vcof2, Value.cells]
  simp [hi c hc, hi r hr, vcofi]
theorem kl_of {x : ps.Fl} (hc : (Lit.int .i64 x.c).wf = true) (hr : (Lit.int .i64 x.r).wf = true) : keyOf Tryz.prog 23 (kvF x) = some (klF x) := by
  obtain ⟨l, hl⟩ := key_some x.c x.r hc hr
  unfold klF
  rw [hl]
  rfl
open Classical in
theorem wt_filt {xs : List ps.Fl} (hs : ps.Srt xs) (f : ps.Fl) : (ps.wt xs f).Perm (ps.put f ++ xs.filter fun x => decide (kvF x ≠ kvF f)) := by
  have hk : ∀ x y : ps.Fl, kvF x = kvF y ↔ x.c = y.c ∧ x.r = y.r := fun x y => by
    constructor
    · intro h
      have := Value.agg.inj h
      simp at this
      exact this
    · rintro ⟨h1, h2⟩
      unfold kvF
      rw [h1, h2]
  induction xs with
  | nil => show (ps.put f).Perm (ps.put f ++ []); rw [List.append_nil]
  | cons x l ih =>
    obtain ⟨h1, h2⟩ := List.pairwise_cons.1 hs
    have ih := ih h2
    by_cases hlt : ps.lt x f.c f.r = true
    · have hne : kvF x ≠ kvF f := fun e => by
        have := (hk x f).1 e
        rw [ps.lt_iff] at hlt
        omega
      rw [show ps.wt (x :: l) f = x :: ps.wt l f by show (if _ then _ else _) = _; rw [if_pos hlt], List.filter_cons_of_pos (by rw [decide_eq_true_eq]; exact hne)]
      exact (List.Perm.cons x ih).trans (List.perm_middle (l₁ := ps.put f)).symm
    · have hrest : ∀ y ∈ l, kvF y ≠ kvF f := fun y hy e => by
        have e2 := (hk y f).1 e
        have h3 := h1 y hy
        rw [e2.1, e2.2] at h3
        exact hlt h3
      have hf : l.filter (fun x => decide (kvF x ≠ kvF f)) = l := List.filter_eq_self.2 fun y hy => decide_eq_true (hrest y hy)
      by_cases hat : ps.at' x f.c f.r = true
      · have he : kvF x = kvF f := (hk x f).2 (ps.at_iff.1 hat)
        rw [show ps.wt (x :: l) f = ps.put f ++ l by show (if _ then _ else _) = _; rw [if_neg hlt, if_pos hat], List.filter_cons_of_neg (by rw [decide_eq_true_eq]; exact fun h => h he), hf]
      · have hne : kvF x ≠ kvF f := fun e => hat (ps.at_iff.2 ((hk x f).1 e))
        rw [show ps.wt (x :: l) f = ps.put f ++ x :: l by show (if _ then _ else _) = _; rw [if_neg hlt, if_neg hat], List.filter_cons_of_pos (by rw [decide_eq_true_eq]; exact hne), hf]
abbrev MP (w : World) (b : Nat) (xs : List ps.Fl) : Prop := mpg.MG Tryz.prog 23 kvF FVv klF w b xs
theorem under_page : Tryz.prog.underlying 62 = some (.map 23 25) := by kernel_rfl
theorem zeroF (w : World) : (zeroValue 25).run Tryz.prog w = .ok (.agg #[.int .i64 0, .int .i64 0, .string nul]) w := by kernel_rfl
theorem kv_iff {x y : ps.Fl} : kvF x = kvF y ↔ x.c = y.c ∧ x.r = y.r := by
  constructor
  · intro h
    have := Value.agg.inj h
    simp at this
    exact this
  · rintro ⟨h1, h2⟩
    unfold kvF
    rw [h1, h2]
/-- Is a cell among these? -/
def hasC (xs : List ps.Fl) (c r : Int) : Bool := xs.any fun x => ps.at' x c r
theorem hasC_iff {xs : List ps.Fl} {c r : Int} : hasC xs c r = true ↔ ∃ x ∈ xs, x.c = c ∧ x.r = r := by
  unfold hasC
  rw [List.any_eq_true]
  constructor
  · rintro ⟨x, hx, h⟩; exact ⟨x, hx, ps.at_iff.1 h⟩
  · rintro ⟨x, hx, h⟩; exact ⟨x, hx, ps.at_iff.2 h⟩
/-- How many cells there are then. -/
theorem wt_len {xs : List ps.Fl} (hs : ps.Srt xs) (f : ps.Fl) (hf : f.s.size ≠ 0) : (ps.wt xs f).length = if hasC xs f.c f.r = true then xs.length else xs.length + 1 := by
  induction xs with
  | nil => show (ps.put f).length = _; rw [ps.put_one hf]; rfl
  | cons x l ih =>
    obtain ⟨h1, h2⟩ := List.pairwise_cons.1 hs
    have ih := ih h2
    have hc : hasC (x :: l) f.c f.r = (ps.at' x f.c f.r || hasC l f.c f.r) := rfl
    by_cases hlt : ps.lt x f.c f.r = true
    · have hat : ps.at' x f.c f.r = false := by
        rw [ps.at_no]
        rw [ps.lt_iff] at hlt
        omega
      rw [show ps.wt (x :: l) f = x :: ps.wt l f by show (if _ then _ else _) = _; rw [if_pos hlt], List.length_cons, ih, hc, hat, Bool.false_or]
      split <;> rfl
    · by_cases hat : ps.at' x f.c f.r = true
      · rw [show ps.wt (x :: l) f = ps.put f ++ l by show (if _ then _ else _) = _; rw [if_neg hlt, if_pos hat], hc, hat, ps.put_one hf]
        rfl
      · have hno : hasC l f.c f.r = false := by
          rw [Bool.eq_false_iff]
          intro h
          obtain ⟨y, hy, e1, e2⟩ := hasC_iff.1 h
          have h3 := h1 y hy
          rw [e1, e2] at h3
          exact hlt h3
        have hat' : ps.at' x f.c f.r = false := by simpa using hat
        rw [show ps.wt (x :: l) f = ps.put f ++ x :: l by show (if _ then _ else _) = _; rw [if_neg hlt, if_neg hat], hc, hno, hat', ps.put_one hf]
        rfl
theorem wt_nul_len {xs : List ps.Fl} (f : ps.Fl) (hf : f.s.size = 0) : (ps.wt xs f).length ≤ xs.length := by
  induction xs with
  | nil => show (ps.put f).length ≤ _; rw [ps.put_nul hf]; exact Nat.le_refl _
  | cons x l ih =>
    unfold ps.wt
    rw [ps.put_nul hf]
    split
    · simp only [List.length_cons]; omega
    · split <;> simp
end Go.Proofs.YtokfijkhflfioaaGreatDoor.fw
