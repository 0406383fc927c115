/- Package past: what lies in memory of a past; the sheet as it is, how far one could go. Conditions: as each theorem says. -/
import Derived.Test.YtpgjmbbdhilhkaaGreatDoorZh
namespace Go.Proofs.YtpgjmbbdhilhkaaGreatDoor.ps
open Go.RowKit
open adr (C)
/-- A step: a cell with its text ahead of it and behind it, and the two lists of one. -/
structure St where
  a : Fl
  b : Fl
  va : Value
  vb : Value
def stF (st : List St) : List Value := st.flatMap fun s => [s.va, s.vb]
theorem stF_len (st : List St) : (stF st).length = st.length * 2 := by
  induction st with
  | nil => rfl
  | cons s l ih => show (s.va :: s.vb :: stF l).length = _; simp [ih]; omega
theorem stF_app (a b : List St) : stF (a ++ b) = stF a ++ stF b := by simp [stF]
theorem stF_at {st : List St} {i : Nat} {s : St} (h : st[i]? = some s) : (stF st)[i * 2]? = some s.va ∧ (stF st)[i * 2 + 1]? = some s.vb := by
  induction st generalizing i with
  | nil => simp at h
  | cons x l ih =>
    cases i with
    | zero => simp at h; subst h; exact ⟨rfl, rfl⟩
    | succ i =>
      have h' : l[i]? = some s := by simpa using h
      obtain ⟨h1, h2⟩ := ih h'
      show (x.va :: x.vb :: stF l)[(i + 1) * 2]? = _ ∧ (x.va :: x.vb :: stF l)[(i + 1) * 2 + 1]? = _
      rw [show (i + 1) * 2 = i * 2 + 1 + 1 by omega]
      exact ⟨by simpa using h1, by simpa using h2⟩
/-- What is kept while a past is walked on: all below it, and every list of cells with their texts. -/
structure KP (bp : Nat) (w w' : World) : Prop where
  below : Below bp w w'
  keep : ∀ (b : Nat) (cs : Array Value) (fr : Nat × Nat), w.heap[b]? = some (.cells cs 33 fr) → w'.heap[b]? = some (.cells cs 33 fr)
theorem KP.refl (bp : Nat) (w : World) : KP bp w w := ⟨Below.refl _ _, fun _ _ _ h => h⟩
theorem KP.trans {bp : Nat} {a b c : World} (h : KP bp a b) (h2 : KP bp b c) : KP bp a c := ⟨h.below.trans h2.below, fun g cs fr hg => h2.keep g cs fr (h.keep g cs fr hg)⟩
theorem KP.of {bp : Nat} {w w' : World} (h : Below w.heap.size w w') (hb : bp ≤ w.heap.size) : KP bp w w' := ⟨h.mono hb, fun g _ _ hg => (h.block g (fm.lt_blk hg)).trans hg⟩
theorem KP.set {bp : Nat} {w : World} {b o : Nat} {cs : Array Value} {t : TypeId} {fr : Nat × Nat} (hb : w.heap[b]? = some (.cells cs t fr)) (ht : t ≠ 33) (hp : bp ≤ b) (u : Value) : KP bp w (w.setCell ⟨b, o, none⟩ u) :=
  ⟨(Below.refl _ _).setCell hp u, fun g _ _ hg => (Below.heap_setCell _ _ _ _ (fun e => by
    have e' : g = b := e
    subst e'
    rw [hb] at hg
    injection hg with hg
    injection hg with _ h2
    exact ht h2)).trans hg⟩
theorem FB.kp {bp : Nat} {w w' : World} {v : Value} {xs : List Fl} (h : FB w v xs) (hk : KP bp w w') : FB w' v xs := by
  refine ⟨h.1, ?_⟩
  rcases h.2 with h0 | ⟨g, cap, cur, h1, h2, hg, h4⟩
  · exact .inl h0
  · exact .inr ⟨g, cap, cur, h1, h2, hk.keep _ _ _ hg, h4⟩
theorem FB.full {w : World} {v : Value} {xs : List Fl} (h : FB w v xs) : ∃ p c, v = .slice p xs.length c ∧ FM w p xs ∧ xs.length ≤ c ∧ (p = none → c = 0) := by
  obtain ⟨p, c, rfl, hm⟩ := h.shape
  refine ⟨p, c, rfl, hm, ?_⟩
  rcases h.2 with ⟨e, h0⟩ | ⟨g, cap, cur, e, -, hg, hc, -⟩
  · injection e with e1 e2 e3
    subst e3
    exact ⟨by omega, fun _ => rfl⟩
  · injection e with e1 e2 e3
    subst e3
    exact ⟨hc, fun h => by rw [h] at e1; cases e1⟩
/-- A past, as it lies in memory: its sheet, its steps, how many of them are done. -/
structure PS (w : World) (bp : Nat) (xs : List Fl) (st : List St) (k : Nat) (vn vs : Value) : Prop where
  blk : w.heap[bp]? = some (.cells #[vn, vs, .int .i64 k] 43 (0, 0))
  now : FB w vn xs
  row : w.ownsRow bp 46 2 vs st.length (stF st)
  mem : ∀ s ∈ st, FB w s.va [s.a] ∧ FB w s.vb [s.b]
theorem PS.next {w w' : World} {bp : Nat} {xs : List Fl} {st : List St} {k : Nat} {vn vs : Value} (h : PS w bp xs st k vn vs) (hb : Below w.heap.size w w') : PS w' bp xs st k vn vs := by
  refine ⟨(hb.block _ (fm.lt_blk h.blk)).trans h.blk, h.now.below hb, ?_, fun s hs => ⟨(h.mem s hs).1.below hb, (h.mem s hs).2.below hb⟩⟩
  refine ⟨h.row.1, ?_⟩
  rcases h.row.2 with h0 | ⟨g, cap, cur, h1, h2, hg, h4⟩
  · exact .inl h0
  · exact .inr ⟨g, cap, cur, h1, h2, (hb.block g (fm.lt_blk hg)).trans hg, h4⟩
theorem PS.steps {w : World} {bp : Nat} {xs : List Fl} {st : List St} {k : Nat} {vn vs : Value} (h : PS w bp xs st k vn vs) : ∃ p c, vs = .slice p st.length c ∧ st.length ≤ c := by
  rcases h.row.2 with ⟨e, h0⟩ | ⟨g, cap, cur, e, -, -, hc, -⟩
  · exact ⟨none, 0, by rw [e, h0], by omega⟩
  · exact ⟨_, _, e, hc⟩
theorem PS.lt {w : World} {bp : Nat} {xs : List Fl} {st : List St} {k : Nat} {vn vs : Value} (h : PS w bp xs st k vn vs) : bp < w.heap.size := fm.lt_blk h.blk
set_option maxHeartbeats 1600000 in
theorem now_any (bp : Nat) (xs : List Fl) (st : List St) (k : Nat) (vn vs : Value) (w : World) (h : PS w bp xs st k vn vs) (hl : xs.length ≤ 1000) :
    Calls Tryz.prog 7 #[.pointer (some ⟨bp, 0, none⟩)] w fun e w' => (∃ v, e = .returned v ∧ FB w' v xs) ∧ Below w.heap.size w w' := by
  obtain ⟨p, c, rfl, hm, hc, hn⟩ := h.now.full
  have HC : Hid (Calls Tryz.prog 15 #[.slice p xs.length c] w fun e w' => (∃ v, e = .returned v ∧ w'.ownsRow w.heap.size 33 3 v xs.length (flF xs)) ∧ Below w.heap.size w w') := clone_any p c xs w hm hl hn
  obtain ⟨c0, c1, c2⟩ := cells3 h.blk
  clear h hm hc hn
  go_enter Tryz.func7, Tryz.ntmps7
  go_wp2_with fail
  refine HC.out.mono ?_
  rintro e w1 ⟨⟨v, rfl, ho⟩, hb⟩
  go_wp2_with fail
  go_ret
  exact ⟨⟨v, rfl, own_base ho (Nat.zero_le _)⟩, hb⟩
set_option maxHeartbeats 1600000 in
theorem depth_any (bp : Nat) (xs : List Fl) (st : List St) (k : Nat) (vn vs : Value) (w : World) (h : PS w bp xs st k vn vs) (hl : st.length ≤ 1000) (hk : k ≤ st.length) :
    Calls Tryz.prog 8 #[.pointer (some ⟨bp, 0, none⟩)] w fun e w' => e = .returned (.tuple #[.int .i64 k, .int .i64 ((st.length : Int) - k)]) ∧ Below w.heap.size w w' := by
  obtain ⟨p, c, rfl, -⟩ := h.steps
  obtain ⟨c0, c1, c2⟩ := cells3 h.blk
  obtain ⟨m, hm⟩ : ∃ m, st.length = m := ⟨_, rfl⟩
  have hm1 : (m : Int) ≤ 1000 := by omega
  have hk1 : (k : Int) ≤ (m : Int) := by omega
  rw [hm] at c1 ⊢
  clear h
  go_enter Tryz.func8, Tryz.ntmps8
  go_wp2_with fail
  go_region
  all_goals
    go_wp2_with fail
    exact bodyPost_ret (v := .tuple #[.int .i64 k, .int .i64 ((m : Int) - k)]) (by simp [results, Tryz.results8, go_sem]) rfl ⟨rfl, (Below.refl _ _).drew⟩
end Go.Proofs.YtpgjmbbdhilhkaaGreatDoor.ps
