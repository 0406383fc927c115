
/- A book, plain: what was written is there, cut off anywhere; what was packed says the same. Nothing is walked here. Conditions: as each theorem says. -/
import Derived.Test.YtokfijkhflfioaaGreatDoorBkf
namespace Go.Proofs.YtokfijkhflfioaaGreatDoor.fw
open Go.RowKit Go.Sort
/-- What is there of bytes, and how many of them are whole. -/
def opB (ok : ByteArray → Bool) (b : List UInt8) : List ps.Fl × Nat := opn (setF ok) b.length [] b
theorem opn_nil {S : Type} (f : S → UInt8 → UInt8 → List UInt8 → Option S) (k : Nat) (s : S) : opn f k s [] = (s, 0) := by cases k <;> rfl
theorem fE_small {ok : ByteArray → Bool} (hok : ∀ s, ok s = true → s.size ≤ 200) {xs : List ps.Fl} (hg : ∀ x ∈ xs, Gd ok x) : ∀ x ∈ xs.map fE, x.2.2.size < 256 := fun x hx => by
  rw [List.mem_map] at hx
  obtain ⟨y, hy, rfl⟩ := hx
  have := hok _ (hg y hy).2.2
  show y.s.size < 256
  omega
theorem len_enS (l : List En) : l.length ≤ (enS l).length := by
  induction l with
  | nil => exact Nat.zero_le _
  | cons x l ih => rw [enS_cons, List.length_append, enO_length, List.length_cons]; omega
theorem book_open {ok : ByteArray → Bool} (hok : ∀ s, ok s = true → s.size ≤ 200) {xs : List ps.Fl} (hs : ps.Srt xs) (hf : ps.Ful xs) (hg : ∀ x ∈ xs, Gd ok x) (hl : xs.length ≤ 200) : opB ok (bkS xs) = (xs, (bkS xs).length) := by
  have h := opn_all (setF ok) (xs.map fE) (fE_small hok hg) (book_runs hs hf hg hl) [] (bkS xs).length
  rw [List.append_nil, opn_nil] at h
  unfold opB
  rw [← opn_enough (setF ok) ((bkS xs).length + (xs.map fE).length) [] (bkS xs) (Nat.le_add_right _ _)]
  exact h
theorem book_cut {ok : ByteArray → Bool} (hok : ∀ s, ok s = true → s.size ≤ 200) {xs : List ps.Fl} (hs : ps.Srt xs) (hf : ps.Ful xs) (hg : ∀ x ∈ xs, Gd ok x) (hl : xs.length ≤ 200) (n : Nat) (hn : n ≤ (bkS xs).length) :
    ∃ j, j ≤ xs.length ∧ opB ok ((bkS xs).take n) = (xs.take j, (bkS (xs.take j)).length) ∧ (bkS (xs.take j)).length ≤ n := by
  obtain ⟨j, s1, h1, h2, h3, h4⟩ := opn_cut (setF ok) (xs.map fE) (fE_small hok hg) (book_runs hs hf hg hl) n (bkS xs).length hn (len_enS _)
  rw [List.length_map] at h1
  rw [← List.map_take] at h2 h3 h4
  have hr := book_runs (ok := ok) (xs := xs.take j) (List.Pairwise.sublist (List.take_sublist _ _) hs) (fun x hx => hf x (List.mem_of_mem_take hx)) (fun x hx => hg x (List.mem_of_mem_take hx)) (by rw [List.length_take]; omega)
  rw [hr] at h2
  obtain rfl := Option.some.inj h2
  refine ⟨j, h1, ?_, h4⟩
  unfold opB
  rw [← opn_enough (setF ok) (bkS xs).length [] ((bkS xs).take n) (by rw [List.length_take]; omega)]
  exact h3
/-- What was packed says the same, in no more bytes. -/
theorem book_pack {ok : ByteArray → Bool} (hok : ∀ s, ok s = true → s.size ≤ 200) (b : List UInt8) :
    opB ok (bkS (opB ok b).1) = ((opB ok b).1, (bkS (opB ok b).1).length) ∧ (bkS (opB ok b).1).length ≤ (opB ok b).2 ∧ (opB ok b).2 ≤ b.length := by
  obtain ⟨h1, h2, h3, h4, h5⟩ := book_any ok b.length b
  exact ⟨book_open hok h1 h2 h3 h4, h5, opn_le _ _ _ _⟩
end Go.Proofs.YtokfijkhflfioaaGreatDoor.fw
