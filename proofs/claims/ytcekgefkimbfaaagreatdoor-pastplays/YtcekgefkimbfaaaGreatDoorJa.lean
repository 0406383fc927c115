/- A sheet as a list of cells with their texts: what stands where, one text more. Nothing is walked here. -/
import Derived.Test.YtcekgefkimbfaaaGreatDoorHold
import Derived.Test.YtcekgefkimbfaaaGreatDoorArow
import Derived.Test.YtcekgefkimbfaaaGreatDoorFx
import Derived.Deep.RegionHeld3
import Derived.Test.YtcekgefkimbfaaaGreatDoorFh
import Derived.Deep.AppendLies
import Derived.Deep.Upon
import Derived.OwnWalk
namespace Go.Proofs.YtcekgefkimbfaaaGreatDoor.ps
/-- A cell with its text. -/
structure Fl where
  c : Int
  r : Int
  s : ByteArray
/-- Which of two cells stands ahead. -/
def cmpC (c1 r1 c2 r2 : Int) : Int := if r1 < r2 then -1 else if r2 < r1 then 1 else if c1 < c2 then -1 else if c2 < c1 then 1 else 0
def lt (x : Fl) (c r : Int) : Bool := decide (cmpC x.c x.r c r < 0)
def at' (x : Fl) (c r : Int) : Bool := decide (cmpC x.c x.r c r = 0)
theorem cmpC_zero {a b c d : Int} : cmpC a b c d = 0 ↔ a = c ∧ b = d := by
  unfold cmpC; split <;> (try split) <;> (try split) <;> (try split) <;> omega
theorem cmpC_neg (a b c d : Int) : cmpC a b c d = -cmpC c d a b := by
  unfold cmpC; repeat' split
  all_goals omega
theorem cmpC_lt {a b c d : Int} : cmpC a b c d < 0 ↔ b < d ∨ (b = d ∧ a < c) := by
  unfold cmpC; repeat' split
  all_goals omega
theorem lt_iff {x : Fl} {c r : Int} : lt x c r = true ↔ x.r < r ∨ (x.r = r ∧ x.c < c) := by unfold lt; rw [decide_eq_true_eq, cmpC_lt]
theorem lt_no {x : Fl} {c r : Int} : lt x c r = false ↔ ¬ (x.r < r ∨ (x.r = r ∧ x.c < c)) := by rw [← lt_iff]; simp
theorem at_iff {x : Fl} {c r : Int} : at' x c r = true ↔ x.c = c ∧ x.r = r := by unfold at'; rw [decide_eq_true_eq, cmpC_zero]
theorem at_no {x : Fl} {c r : Int} : at' x c r = false ↔ ¬ (x.c = c ∧ x.r = r) := by rw [← at_iff]; simp
/-- The list, as cells stand. -/
def Srt (l : List Fl) : Prop := l.Pairwise fun x y => lt x y.c y.r = true
/-- No text is empty. -/
def Ful (l : List Fl) : Prop := ∀ x ∈ l, x.s.size ≠ 0
def put (f : Fl) : List Fl := if f.s.size = 0 then [] else [f]
/-- The list with another text of one cell. -/
def wt : List Fl → Fl → List Fl
  | [], f => put f
  | x :: l, f => if lt x f.c f.r = true then x :: wt l f else if at' x f.c f.r = true then put f ++ l else put f ++ x :: l
/-- A cell's text. -/
def txt : List Fl → Int → Int → ByteArray
  | [], _, _ => nul
  | x :: l, c, r => if at' x c r = true then x.s else txt l c r
theorem size_nul {s : ByteArray} (h : s.size = 0) : s = nul := by
  obtain ⟨⟨l⟩⟩ := s
  have : l = [] := List.length_eq_zero_iff.1 h
  subst this
  rfl
theorem put_nul {f : Fl} (h : f.s.size = 0) : put f = [] := if_pos h
theorem put_one {f : Fl} (h : f.s.size ≠ 0) : put f = [f] := if_neg h
theorem txt_none {l : List Fl} {c r : Int} (h : ∀ x ∈ l, at' x c r = false) : txt l c r = nul := by
  induction l with
  | nil => rfl
  | cons x l ih => unfold txt; rw [if_neg (by simp [h x (by simp)])]; exact ih (fun y hy => h y (by simp [hy]))
theorem wt_back {l : List Fl} (hs : Srt l) (hf : Ful l) (f : Fl) : wt (wt l f) ⟨f.c, f.r, txt l f.c f.r⟩ = l := by
  induction l with
  | nil =>
    show wt (put f) ⟨f.c, f.r, nul⟩ = []
    by_cases h : f.s.size = 0
    · rw [put_nul h]; rfl
    · rw [put_one h]
      unfold wt
      rw [if_neg (by rw [lt_iff]; dsimp only; omega), if_pos (by rw [at_iff]; exact ⟨rfl, rfl⟩), put_nul rfl]
      rfl
  | cons x l ih =>
    have hs' := List.pairwise_cons.1 hs
    have hf' : Ful l := fun y hy => hf y (by simp [hy])
    by_cases h1 : lt x f.c f.r = true
    · have e1 : wt (x :: l) f = x :: wt l f := by show (if _ then _ else _) = _; rw [if_pos h1]
      have h2 : at' x f.c f.r = false := by rw [at_no]; rw [lt_iff] at h1; omega
      have e2 : txt (x :: l) f.c f.r = txt l f.c f.r := by show (if _ then _ else _) = _; rw [if_neg (by simp [h2])]
      rw [e1, e2]
      show (if _ then _ else _) = _
      rw [if_pos h1, ih hs'.2 hf']
    · by_cases h2 : at' x f.c f.r = true
      · have e1 : wt (x :: l) f = put f ++ l := by show (if _ then _ else _) = _; rw [if_neg h1, if_pos h2]
        have e2 : txt (x :: l) f.c f.r = x.s := by show (if _ then _ else _) = _; rw [if_pos h2]
        rw [e1, e2]
        have hx := at_iff.1 h2
        have hxs := hf x (by simp)
        have hxe : (⟨f.c, f.r, x.s⟩ : Fl) = x := by rw [← hx.1, ← hx.2]
        by_cases h : f.s.size = 0
        · rw [put_nul h, List.nil_append, hxe]
          cases l with
          | nil => show put x = _; rw [put_one hxs]
          | cons y l =>
            have hy := hs'.1 y (by simp)
            rw [lt_iff] at hy
            show (if _ then _ else _) = _
            rw [if_neg (by rw [lt_iff]; omega), if_neg (by rw [at_iff]; omega), put_one hxs]
            rfl
        · rw [put_one h, List.singleton_append, hxe]
          show (if _ then _ else _) = _
          rw [if_neg (by rw [lt_iff]; omega), if_pos (by rw [at_iff]; exact ⟨hx.1.symm, hx.2.symm⟩), put_one hxs]
          rfl
      · have e1 : wt (x :: l) f = put f ++ x :: l := by show (if _ then _ else _) = _; rw [if_neg h1, if_neg h2]
        have e2 : txt (x :: l) f.c f.r = nul := txt_none (fun y hy => by
          rw [at_no]
          rw [lt_iff] at h1
          rw [at_iff] at h2
          rcases List.mem_cons.1 hy with rfl | hy
          · exact h2
          · have := hs'.1 y hy
            rw [lt_iff] at this
            omega)
        rw [e1, e2]
        have g1 : ¬ lt x f.c f.r = true := h1
        by_cases h : f.s.size = 0
        · rw [put_nul h, List.nil_append]
          show (if _ then _ else _) = _
          rw [if_neg h1, if_neg h2, put_nul rfl]
          rfl
        · rw [put_one h, List.singleton_append]
          show (if _ then _ else _) = _
          rw [if_neg (by rw [lt_iff]; dsimp only; omega), if_pos (by rw [at_iff]; exact ⟨rfl, rfl⟩), put_nul rfl]
          rfl
theorem put_in {f x : Fl} (h : x ∈ put f) : x = f ∧ f.s.size ≠ 0 := by
  unfold put at h
  split at h
  · simp at h
  · simp at h; exact ⟨h, by assumption⟩
theorem wt_in {l : List Fl} {f x : Fl} (h : x ∈ wt l f) : x ∈ l ∨ (x = f ∧ f.s.size ≠ 0) := by
  induction l with
  | nil => exact .inr (put_in h)
  | cons y l ih =>
    by_cases h1 : lt y f.c f.r = true
    · rw [show wt (y :: l) f = y :: wt l f by show (if _ then _ else _) = _; rw [if_pos h1]] at h
      rcases List.mem_cons.1 h with rfl | h
      · exact .inl (by simp)
      · rcases ih h with h | h
        · exact .inl (by simp [h])
        · exact .inr h
    · by_cases h2 : at' y f.c f.r = true
      · rw [show wt (y :: l) f = put f ++ l by show (if _ then _ else _) = _; rw [if_neg h1, if_pos h2]] at h
        rcases List.mem_append.1 h with h | h
        · exact .inr (put_in h)
        · exact .inl (by simp [h])
      · rw [show wt (y :: l) f = put f ++ y :: l by show (if _ then _ else _) = _; rw [if_neg h1, if_neg h2]] at h
        rcases List.mem_append.1 h with h | h
        · exact .inr (put_in h)
        · exact .inl h
theorem wt_ful {l : List Fl} (h : Ful l) (f : Fl) : Ful (wt l f) := fun x hx => by
  rcases wt_in hx with hx | ⟨rfl, hx⟩
  · exact h x hx
  · exact hx
theorem wt_srt {l : List Fl} (h : Srt l) (f : Fl) : Srt (wt l f) := by
  induction l with
  | nil => show Srt (put f); unfold put; split <;> simp [Srt]
  | cons x l ih =>
    have hs' := List.pairwise_cons.1 h
    by_cases h1 : lt x f.c f.r = true
    · rw [show wt (x :: l) f = x :: wt l f by show (if _ then _ else _) = _; rw [if_pos h1]]
      refine List.pairwise_cons.2 ⟨fun y hy => ?_, ih hs'.2⟩
      rcases wt_in hy with hy | ⟨rfl, -⟩
      · exact hs'.1 y hy
      · exact h1
    · by_cases h2 : at' x f.c f.r = true
      · rw [show wt (x :: l) f = put f ++ l by show (if _ then _ else _) = _; rw [if_neg h1, if_pos h2]]
        refine List.pairwise_append.2 ⟨by unfold put; split <;> simp, hs'.2, fun a ha b hb => ?_⟩
        obtain ⟨rfl, -⟩ := put_in ha
        have := hs'.1 b hb
        rw [lt_iff] at this ⊢
        rw [at_iff] at h2
        omega
      · rw [show wt (x :: l) f = put f ++ x :: l by show (if _ then _ else _) = _; rw [if_neg h1, if_neg h2]]
        refine List.pairwise_append.2 ⟨by unfold put; split <;> simp, h, fun a ha b hb => ?_⟩
        obtain ⟨rfl, -⟩ := put_in ha
        rw [lt_iff] at h1 ⊢
        rw [at_iff] at h2
        rcases List.mem_cons.1 hb with rfl | hb
        · omega
        · have := hs'.1 b hb
          rw [lt_iff] at this
          omega
/-- Where a list parts: so many stand ahead, and the next does not. -/
theorem wt_at {l : List Fl} {f : Fl} {k : Nat} (hk : k ≤ l.length) (h : ∀ i x, i < k → l[i]? = some x → lt x f.c f.r = true) : wt l f = l.take k ++ wt (l.drop k) f := by
  induction k generalizing l with
  | zero => rfl
  | succ k ih =>
    cases l with
    | nil => simp at hk
    | cons x l =>
      have h1 := h 0 x (by omega) rfl
      rw [show wt (x :: l) f = x :: wt l f by show (if _ then _ else _) = _; rw [if_pos h1]]
      simp only [List.take_succ_cons, List.drop_succ_cons, List.cons_append]
      rw [← ih (by simpa using hk) (fun i y hi hy => h (i + 1) y (by omega) (by simpa using hy))]
theorem txt_at {l : List Fl} (hs : Srt l) {i : Nat} {x : Fl} (hx : l[i]? = some x) : txt l x.c x.r = x.s := by
  induction l generalizing i with
  | nil => simp at hx
  | cons y l ih =>
    have hs' := List.pairwise_cons.1 hs
    cases i with
    | zero =>
      simp at hx
      subst hx
      show (if _ then _ else _) = _
      rw [if_pos (by rw [at_iff]; exact ⟨rfl, rfl⟩)]
    | succ i =>
      simp at hx
      have := hs'.1 x (List.mem_of_getElem? hx)
      rw [lt_iff] at this
      show (if _ then _ else _) = _
      rw [if_neg (by rw [at_iff]; omega)]
      exact ih hs'.2 hx
end Go.Proofs.YtcekgefkimbfaaaGreatDoor.ps
/- Package addr: which of two cells stands ahead. Conditions: as each theorem says. -/
namespace Go.Proofs.YtcekgefkimbfaaaGreatDoor.ps
open Go.RowKit
open adr (C)
def cmpI (a b : Int) : Int := if a < b then -1 else if b < a then 1 else 0
def orI (x y : Int) : Int := if x = 0 then y else x
theorem cmpC_or (a b c d : Int) : orI (cmpI b d) (cmpI a c) = cmpC a b c d := by
  unfold orI cmpI cmpC; repeat' split
  all_goals omega
theorem cmpInt_any (a b : Int) (w : World) :
    Calls Tryz.prog 57 #[.int .i64 a, .int .i64 b] w fun e w' => e = .returned (.int .i64 (cmpI a b)) ∧ w' = w := by
  by_cases h : a < b
  · have e1 : cmpI a b = -1 := by unfold cmpI; rw [if_pos h]
    rw [e1]
    go_enter Tryz.func57, Tryz.ntmps57
    go_wp2
    go_ret
    exact ⟨rfl, rfl⟩
  · by_cases h2 : b < a
    · have e1 : cmpI a b = 1 := by unfold cmpI; rw [if_neg h, if_pos h2]
      rw [e1]
      go_enter Tryz.func57, Tryz.ntmps57
      go_wp2
      go_ret
      exact ⟨rfl, rfl⟩
    · have e1 : cmpI a b = 0 := by unfold cmpI; rw [if_neg h, if_neg h2]
      rw [e1]
      go_enter Tryz.func57, Tryz.ntmps57
      go_wp2
      go_ret
      exact ⟨rfl, rfl⟩
set_option maxRecDepth 100000 in
set_option maxHeartbeats 1600000 in
theorem or_any (x y : Int) (g : Nat) (w : World) (h : w.heap[g]? = some (.cells #[.int .i64 x, .int .i64 y] 3 (0, 0))) :
    Calls Tryz.prog 56 #[.slice (some ⟨g, 0, none⟩) 2 2] w fun e w' => e = .returned (.int .i64 (orI x y)) ∧ w' = w := by
  have c0 : w.cell? ⟨g, 0, none⟩ = some (.int .i64 x) := by simp [World.cell?, h]
  have c1 : w.cell? ⟨g, 1, none⟩ = some (.int .i64 y) := by simp [World.cell?, h]
  clear h
  go_enter Tryz.func56, Tryz.ntmps56
  go_wp2_with fail
  go_loopw [8] (fun i wr => wr = w ∧ (i = .int .i64 0 ∨ (i = .int .i64 1 ∧ x = 0) ∨ (i = .int .i64 2 ∧ x = 0 ∧ y = 0))) (fun i _ => 2 - (intOf i).toNat)
  case atStart => exact ⟨rfl, .inl rfl⟩
  case round =>
    obtain ⟨rfl, rfl | ⟨rfl, hx⟩ | ⟨rfl, hx, hy⟩⟩ := hrel
    · by_cases hx : x = 0
      · subst hx
        go_wp2_with fail
        exact ⟨by simp, by simp [intOf]⟩
      · have e : orI x y = x := by unfold orI; rw [if_neg hx]
        go_wp2_with fail
        go_ret
        exact ⟨by rw [e]; rfl, rfl⟩
    · by_cases hy : y = 0
      · subst hy
        go_wp2_with fail
        exact ⟨by simp [hx], by simp [intOf]⟩
      · have e : orI x y = y := by unfold orI; rw [if_pos hx]
        go_wp2_with fail
        go_ret
        exact ⟨by rw [e]; rfl, rfl⟩
    · have e : orI x y = 0 := by unfold orI; rw [if_pos hx, hy]
      go_wp2_with fail
      go_ret
      exact ⟨by rw [e]; rfl, rfl⟩
/-- Two cells, each in a box of its own. -/
structure PC (w : World) (a b c d : Int) (wx : World) : Prop where
  x : wx.heap[w.heap.size]? = some (.cells #[.int .i64 a, .int .i64 b] 34 (0, 0))
  y : wx.heap[w.heap.size + 1]? = some (.cells #[.int .i64 c, .int .i64 d] 34 (0, 0))
  below : Below w.heap.size w wx
theorem PC.start (w : World) (a b c d : Int) : PC w a b c d ((w.alloc (.cells #[.int .i64 a, .int .i64 b] 34)).alloc (.cells #[.int .i64 c, .int .i64 d] 34)) :=
  ⟨(Below.heap_alloc _ _ _ (by simp)).trans (heap_alloc_new _ _), by have := heap_alloc_new (w.alloc (.cells #[.int .i64 a, .int .i64 b] 34)) (.cells #[.int .i64 c, .int .i64 d] 34); simpa using this, ((Below.refl _ _).alloc (Nat.le_refl _) _).alloc (by simp) _⟩
theorem PC.next {w : World} {a b c d : Int} {wx wy : World} (h : PC w a b c d wx) (hb : Below wx.heap.size wx wy) : PC w a b c d wy := ⟨(hb.block _ (fm.lt_blk h.x)).trans h.x, (hb.block _ (fm.lt_blk h.y)).trans h.y, bnext h.below hb h.below.size⟩
theorem PC.alloc {w : World} {a b c d : Int} {wx : World} (h : PC w a b c d wx) (o : Obj) : PC w a b c d (wx.alloc o) := h.next ((Below.refl _ _).alloc (Nat.le_refl _) _)
abbrev PO (w : World) (a b c d : Int) (wx : World) : Prop := wx.cell? ⟨w.heap.size, 0, none⟩ = some (.int .i64 a) ∧ wx.cell? ⟨w.heap.size, 1, none⟩ = some (.int .i64 b) ∧ wx.cell? ⟨w.heap.size + 1, 0, none⟩ = some (.int .i64 c) ∧ wx.cell? ⟨w.heap.size + 1, 1, none⟩ = some (.int .i64 d) ∧ PC w a b c d wx
theorem PC.opened {w : World} {a b c d : Int} {wx : World} (h : PC w a b c d wx) : PO w a b c d wx :=
  ⟨by simp [World.cell?, h.x], by simp [World.cell?, h.x], by simp [World.cell?, h.y], by simp [World.cell?, h.y], h⟩
theorem po {w : World} {a b c d : Int} {wx : World} (h : PO w a b c d wx) : PC w a b c d wx := h.2.2.2.2
set_option maxRecDepth 100000 in
set_option maxHeartbeats 4000000 in
theorem compare_any (a b c d : Int) (w : World) :
    Calls Tryz.prog 40 #[C a b, C c d] w fun e w' => e = .returned (.int .i64 (cmpC a b c d)) ∧ Below w.heap.size w w' := by
  have hS := PC.start w a b c d
  rw [← cmpC_or]
  have HP : Hid (∀ x y wx, Calls Tryz.prog 57 #[.int .i64 x, .int .i64 y] wx fun e w' => e = .returned (.int .i64 (cmpI x y)) ∧ Below wx.heap.size wx w') := fun x y wx => (cmpInt_any x y wx).mono (fun e w' h => by obtain ⟨rfl, rfl⟩ := h; exact ⟨rfl, Below.refl _ _⟩)
  have HO : Hid (∀ (p q : Int) (wx : World), Calls Tryz.prog 56 #[.slice (some ⟨wx.heap.size, 0, none⟩) 2 2] (wx.alloc (.cells #[.int .i64 p, .int .i64 q] 3)) fun e w' => e = .returned (.int .i64 (orI p q)) ∧ Below (wx.alloc (.cells #[.int .i64 p, .int .i64 q] 3)).heap.size (wx.alloc (.cells #[.int .i64 p, .int .i64 q] 3)) w') := fun p q wx => (or_any p q wx.heap.size _ (heap_alloc_new _ _)).mono (fun e w' h => by obtain ⟨rfl, rfl⟩ := h; exact ⟨rfl, Below.refl _ _⟩)
  go_enter Tryz.func40, Tryz.ntmps40
  go_wp2_with fail
  generalize (w.alloc (.cells #[.int .i64 a, .int .i64 b] 34)).alloc (.cells #[.int .i64 c, .int .i64 d] 34) = W at *
  have h0d := (hS.next (Below.refl _ _).drew).opened
  obtain ⟨y0, y1, y2, y3, -⟩ := hS.opened
  go_region_held3 (fun wx => PO w a b c d wx) (first | exact h0d | exact ((po (by assumption)).next (by assumption)).opened | exact ((po (by assumption)).alloc _).opened) (first | (go_at_call 57; refine (HP.out _ _ _).mono ?_; rintro e w1 ⟨rfl, hb1⟩) | (go_at_call 56; refine (HO.out _ _ _).mono ?_; rintro e w3 ⟨rfl, hb3⟩; have hk3 := (po (by assumption)).next hb3))
  all_goals
    go_wp2_with fail
    go_ret
    exact ⟨rfl, hk3.below⟩
end Go.Proofs.YtcekgefkimbfaaaGreatDoor.ps
/- Lists of cells with their texts, in memory; one list behind another. Conditions: as each theorem says. -/
namespace Go.Proofs.YtcekgefkimbfaaaGreatDoor.ps
open Go.RowKit
abbrev fl3 (x : Fl) : List Value := [.int .i64 x.c, .int .i64 x.r, .string x.s]
def flF (xs : List Fl) : List Value := xs.flatMap fl3
theorem flF_len (xs : List Fl) : (flF xs).length = xs.length * 3 := by
  induction xs with
  | nil => rfl
  | cons x l ih => unfold flF at ih ⊢; rw [List.flatMap_cons, List.length_append, ih, List.length_cons]; simp; omega
theorem flF_app (a b : List Fl) : flF (a ++ b) = flF a ++ flF b := by simp [flF]
theorem flF_one (xs : List Fl) : ∀ u ∈ flF xs, u.oneCell' = true := by
  intro u hu
  obtain ⟨x, -, hx⟩ := List.mem_flatMap.1 hu
  simp at hx
  rcases hx with rfl | rfl | rfl <;> rfl
theorem flF_at {xs : List Fl} {i : Nat} {x : Fl} (h : xs[i]? = some x) {j : Nat} {v : Value} (hv : (fl3 x)[j]? = some v) : (flF xs)[i * 3 + j]? = some v := by
  induction xs generalizing i with
  | nil => simp at h
  | cons y ys ih =>
    have hy : (fl3 y).length = 3 := rfl
    unfold flF
    simp only [List.flatMap_cons]
    cases i with
    | zero =>
      simp at h; subst h
      have hj : j < 3 := by have := (List.getElem?_eq_some_iff.1 hv).1; simpa using this
      rw [List.getElem?_append_left (by omega)]
      simpa using hv
    | succ i =>
      simp at h
      rw [List.getElem?_append_right (by omega), show (i + 1) * 3 + j - (fl3 y).length = i * 3 + j from by omega]
      exact ih h
/-- A list lies at an address. -/
def FM (w : World) (p : Option Addr) (xs : List Fl) : Prop := xs = [] ∨ ∃ g o, p = some ⟨g, o, none⟩ ∧ g < w.heap.size ∧ ∀ (t : Nat) u, (flF xs)[t]? = some u → w.cell? ⟨g, o + t, none⟩ = some u
theorem FM.next {w w' : World} {p : Option Addr} {xs : List Fl} (h : FM w p xs) {B : Nat} (hb : Below B w w') (hB : ∀ g o, p = some ⟨g, o, none⟩ → g < B) : FM w' p xs := by
  rcases h with h | ⟨g, o, rfl, h2, h3⟩
  · exact .inl h
  · exact .inr ⟨g, o, rfl, Nat.lt_of_lt_of_le h2 hb.size, fun t u hu => by rw [hb.cell (p := ⟨g, _, none⟩) (hB g o rfl)]; exact h3 t u hu⟩
theorem FM.below {w w' : World} {p : Option Addr} {xs : List Fl} (h : FM w p xs) (hb : Below w.heap.size w w') : FM w' p xs := by
  rcases h with h | ⟨g, o, rfl, h2, h3⟩
  · exact .inl h
  · exact FM.next (.inr ⟨g, o, rfl, h2, h3⟩) hb (fun g' o' e => by cases e; exact h2)
theorem FM.drop {w : World} {g o : Nat} {x : Fl} {xs : List Fl} (h : FM w (some ⟨g, o, none⟩) (x :: xs)) : FM w (some ⟨g, o + 3, none⟩) xs := by
  rcases h with h | ⟨g', o', e, h2, h3⟩
  · cases h
  · cases e
    refine .inr ⟨g, o + 3, rfl, h2, fun t u hu => ?_⟩
    have : (flF (x :: xs))[t + 3]? = some u := by
      unfold flF at hu ⊢
      simp only [List.flatMap_cons]
      rw [List.getElem?_append_right (by simp)]
      simpa using hu
    have h4 := h3 _ u this
    rw [show o + 3 + t = o + (t + 3) by omega]
    exact h4
theorem FM.cells {w : World} {g o : Nat} {xs : List Fl} (h : FM w (some ⟨g, o, none⟩) xs) {i : Nat} {x : Fl} (hx : xs[i]? = some x) : w.cell? ⟨g, o + i * 3, none⟩ = some (.int .i64 x.c) ∧ w.cell? ⟨g, o + i * 3 + 1, none⟩ = some (.int .i64 x.r) ∧ w.cell? ⟨g, o + i * 3 + 2, none⟩ = some (.string x.s) := by
  rcases h with h | ⟨g', o', e, h2, h3⟩
  · subst h; simp at hx
  · cases e
    have q0 := h3 _ _ (flF_at hx (j := 0) rfl)
    have q1 := h3 _ _ (flF_at hx (j := 1) rfl)
    have q2 := h3 _ _ (flF_at hx (j := 2) rfl)
    rw [Nat.add_zero] at q0
    rw [← Nat.add_assoc] at q1 q2
    exact ⟨q0, q1, q2⟩
/-- A list in a block of its own. -/
def FB (w : World) (v : Value) (xs : List Fl) : Prop := w.ownsRow 0 36 3 v xs.length (flF xs)
theorem FB.shape {w : World} {v : Value} {xs : List Fl} (h : FB w v xs) : ∃ p c, v = .slice p xs.length c ∧ FM w p xs := by
  rcases h.2 with ⟨rfl, h0⟩ | ⟨g, cap, cur, rfl, -, hg, hc, -, hs, ht⟩
  · exact ⟨none, 0, by rw [h0], .inl (List.length_eq_zero_iff.1 h0)⟩
  · refine ⟨_, _, rfl, .inr ⟨g, 0, rfl, fm.lt_blk hg, fun t u hu => ?_⟩⟩
    rw [← ht, List.getElem?_take] at hu
    split at hu
    · simp [World.cell?, hg]; simpa using hu
    · cases hu
theorem FB.below {w w' : World} {v : Value} {xs : List Fl} (h : FB w v xs) (hb : Below w.heap.size w w') : FB w' v xs := by
  refine ⟨h.1, ?_⟩
  rcases h.2 with h0 | ⟨g, cap, cur, h1, h2, hg, h4⟩
  · exact .inl h0
  · exact .inr ⟨g, cap, cur, h1, h2, (hb.block g (fm.lt_blk hg)).trans hg, h4⟩
theorem info33 : (Tryz.prog.info? 36).map (fun i => (i.zero, i.size, i.bytes)) = some (some (.agg #[.int .i64 0, .int .i64 0, .string nul]), 3, 32) := by kernel_rfl
theorem own_base {w : World} {e : TypeId} {size : Nat} {v : Value} {n : Nat} {xs : List Value} {base b : Nat} (h : w.ownsRow base e size v n xs) (hb : b ≤ base) : w.ownsRow b e size v n xs := by
  refine ⟨h.1, ?_⟩
  rcases h.2 with h0 | ⟨g, cap, cur, h1, h2, h3⟩
  · exact .inl h0
  · exact .inr ⟨g, cap, cur, h1, Nat.le_trans hb h2, h3⟩
/-- One list behind another. -/
theorem app_any (w : World) (base : Nat) (hbase : base ≤ w.heap.size) (v : Value) (n : Nat) (xs : List Value) (hown : w.ownsRow base 36 3 v n xs) (p : Option Addr) (ys : List Fl) (c : Nat) (hy : FM w p ys) (hm : n + ys.length ≤ 4398046511104) :
    ∃ v' w', (Builtin.append_ #[22, 22] 22 #[v, .slice p ys.length c]).run Tryz.prog w = .ok v' w' ∧ w'.ownsRow base 36 3 v' (n + ys.length) (xs ++ flF ys) ∧ Below base w w' ∧ (∀ b, b < w.heap.size → v.ownBlock ≠ some b → w'.heap[b]? = w.heap[b]?) ∧ (∀ k, v'.ownBlock = some k → v.ownBlock = some k ∨ w.heap.size ≤ k) ∧ w.heap.size ≤ w'.heap.size := by
  obtain ⟨i0, hi, hz0, hz1, hz2⟩ := info_parts info33
  have hmax : maxLen = 9223372036854775807 := rfl
  by_cases h0 : ys = []
  · subst h0
    have hv : ∃ b l k, v = .slice b l k ∧ l ≤ k := by
      rcases hown.2 with ⟨rfl, -⟩ | ⟨g, cap, cur, rfl, -, -, hc, -⟩
      · exact ⟨none, 0, 0, rfl, Nat.le_refl _⟩
      · exact ⟨_, _, _, rfl, hc⟩
    obtain ⟨b, l, k, rfl, hlk⟩ := hv
    refine ⟨_, w, run_append_nothing (P := Tryz.prog) w 22 22 22 36 i0 Tryz.underlying22 hi b l k hlk (.slice p 0 c) ?_, by simpa [flF] using hown, Below.refl _ _, fun _ _ _ => rfl, fun _ h => .inl h, Nat.le_refl _⟩
    rw [hz1]
    cases p with
    | none => exact Src.ofNil w Tryz.underlying22 c
    | some a => exact Src.ofSlice w Tryz.underlying22 a 0 c [] (by simp) (by simp) (by simp)
  · rcases hy with hy | ⟨g, o, rfl, hg, hc⟩
    · exact absurd hy h0
    · have hl : 0 < ys.length := List.length_pos_iff.2 h0
      obtain ⟨g', cap', w', hr, ho, hgr, hob, -⟩ := run_append_lies (P := Tryz.prog) (w := w) 22 22 base 36 i0 _ 3 32 Tryz.underlying22 hi hz0 hz1 hz2 rfl (by decide) v n xs hown ⟨g, o, none⟩ ys.length c (flF ys) (flF_len ys) (fun j u hu => by rw [show (⟨g, o, none⟩ : Addr).add j = ⟨g, o + j, none⟩ by unfold Addr.add; by_cases h : j = 0 <;> simp [h]]; exact hc j u hu) (flF_one ys) hl (by omega) (by omega) hbase _ rfl
      exact ⟨_, w', hr, ho, (Below.refl base w).grown hgr hbase (fun k hk => (hown.lt k hk).1), fun b hb hne => hgr.block b hb (fun e => hne e.symm), fun k hk => by
        have hk' : g' = k := by simpa [Value.ownBlock] using hk
        subst hk'
        rcases hob with h | h
        · exact .inl h
        · exact .inr (Nat.le_of_eq h.symm), ((Below.refl base w).grown hgr hbase (fun k hk => (hown.lt k hk).1)).size⟩
theorem app_many (w : World) (base : Nat) (hbase : base ≤ w.heap.size) (v : Value) (n : Nat) (xs : List Value) (hown : w.ownsRow base 36 3 v n xs) (hn : n ≤ 1000) (p : Option Addr) (ys : List Fl) (c : Nat) (hy : FM w p ys) (hm : ys.length ≤ 1000) :
    ∃ v' w', (Builtin.append_ #[22, 22] 22 #[v, .slice p ys.length c]).run Tryz.prog w = .ok v' w' ∧ w'.ownsRow base 36 3 v' (n + ys.length) (xs ++ flF ys) ∧ Below base w w' ∧ (∀ b, b < w.heap.size → v.ownBlock ≠ some b → w'.heap[b]? = w.heap[b]?) ∧ (∀ k, v'.ownBlock = some k → v.ownBlock = some k ∨ w.heap.size ≤ k) ∧ w.heap.size ≤ w'.heap.size :=
  app_any w base hbase v n xs hown p ys c hy (by omega)
end Go.Proofs.YtcekgefkimbfaaaGreatDoor.ps
/- Cells held against each other; a list's copy. Conditions: as each theorem says. -/
namespace Go.Proofs.YtcekgefkimbfaaaGreatDoor.ps
open Go.RowKit
open adr (C)
abbrev FV (x : Fl) : Value := .agg #[.int .i64 x.c, .int .i64 x.r, .string x.s]
set_option maxRecDepth 100000 in
set_option maxHeartbeats 1600000 in
theorem less_any (a b c d : Int) (w : World) : Calls Tryz.prog 43 #[C a b, C c d] w fun e w' => e = .returned (.bool (decide (cmpC a b c d < 0))) ∧ Below w.heap.size w w' := by
  have HC : Hid (∀ wx, Calls Tryz.prog 40 #[C a b, C c d] wx fun e w' => e = .returned (.int .i64 (cmpC a b c d)) ∧ Below wx.heap.size wx w') := compare_any a b c d
  have hS := PC.start w a b c d
  obtain ⟨y0, y1, y2, y3, -⟩ := hS.opened
  generalize cmpC a b c d = q at *
  have HS : Hid (PC w a b c d ((w.alloc (.cells #[.int .i64 a, .int .i64 b] 34)).alloc (.cells #[.int .i64 c, .int .i64 d] 34))) := hS
  clear hS
  go_enter Tryz.func43, Tryz.ntmps43
  go_wp2_with fail
  refine (HC.out _).mono ?_
  rintro e w1 ⟨rfl, hb1⟩
  have HK : Hid (PC w a b c d w1) := HS.out.next hb1
  clear y0 y1 y2 y3 hb1 HS
  go_wp2_with fail
  go_ret
  exact ⟨rfl, HK.out.below⟩
theorem cells2 {W : World} {b : Nat} {a0 a1 : Value} {t : TypeId} (h : W.heap[b]? = some (.cells #[a0, a1] t (0, 0))) : W.cell? ⟨b, 0, none⟩ = some a0 ∧ W.cell? ⟨b, 1, none⟩ = some a1 := by
  constructor <;> simp [World.cell?, h]
theorem cells3 {W : World} {b : Nat} {a0 a1 a2 : Value} {t : TypeId} (h : W.heap[b]? = some (.cells #[a0, a1, a2] t (0, 0))) : W.cell? ⟨b, 0, none⟩ = some a0 ∧ W.cell? ⟨b, 1, none⟩ = some a1 ∧ W.cell? ⟨b, 2, none⟩ = some a2 := by
  refine ⟨?_, ?_, ?_⟩ <;> simp [World.cell?, h]
theorem two_new' (w : World) (o o' : Obj) : ((w.alloc o).alloc o').heap[w.heap.size]? = some o ∧ ((w.alloc o).alloc o').heap[w.heap.size + 1]? = some o' :=
  ⟨(Below.heap_alloc _ _ _ (by simp)).trans (heap_alloc_new _ _), by have := heap_alloc_new (w.alloc o) o'; simpa using this⟩
set_option maxRecDepth 100000 in
set_option maxHeartbeats 1600000 in
theorem cmpF_any (x : Fl) (c r : Int) (w : World) : Calls Tryz.prog 70 #[FV x, C c r] w fun e w' => e = .returned (.int .i64 (cmpC x.c x.r c r)) ∧ Below w.heap.size w w' := by
  obtain ⟨xc, xr, xs⟩ := x
  dsimp only [FV]
  have HC : Hid (∀ wx, Calls Tryz.prog 40 #[C xc xr, C c r] wx fun e w' => e = .returned (.int .i64 (cmpC xc xr c r)) ∧ Below wx.heap.size wx w') := compare_any xc xr c r
  obtain ⟨h1, h2⟩ := two_new' w (.cells #[.int .i64 xc, .int .i64 xr, .string xs] 36) (.cells #[.int .i64 c, .int .i64 r] 34)
  obtain ⟨y0, y1, y4⟩ := cells3 h1
  obtain ⟨y2, y3⟩ := cells2 h2
  have HB : Hid (Below w.heap.size w ((w.alloc (.cells #[.int .i64 xc, .int .i64 xr, .string xs] 36)).alloc (.cells #[.int .i64 c, .int .i64 r] 34))) := ((Below.refl _ _).alloc (Nat.le_refl _) _).alloc (by simp) _
  generalize cmpC xc xr c r = q at *
  clear h1 h2
  go_enter Tryz.func70, Tryz.ntmps70
  go_wp2_with fail
  refine (HC.out _).mono ?_
  rintro e w1 ⟨rfl, hb1⟩
  have HK : Hid (Below w.heap.size w w1) := bnext HB.out hb1 HB.out.size
  clear y0 y1 y2 y3 y4 hb1
  go_wp2_with fail
  go_ret
  exact ⟨rfl, HK.out⟩
theorem eq_nil0 (b : Option Addr) (n c : Nat) (W : World) : (Op.equal 22 (.slice b n c) (.slice none 0 0)).run Tryz.prog W = .ok b.isNone W := by
  unfold Op.equal
  rw [show Op.maxDepth = Op.maxDepth - 1 + 1 from rfl]
  unfold Op.equalIn
  cases b <;> simp [go_sem]
theorem eql_nil (b : Option Addr) (n c : Nat) (W : World) : (binOp BinOp.eql 22 (.slice b n c) (.slice none 0 0)).run Tryz.prog W = .ok (.bool b.isNone) W := by
  simp [binOp, go_sem, eq_nil0 b n c W]
set_option maxRecDepth 100000 in
set_option maxHeartbeats 1600000 in
theorem clone_any (p : Option Addr) (c : Nat) (xs : List Fl) (w : World) (h : FM w p xs) (hl : xs.length ≤ 4398046511104) (hc : p = none → c = 0) : Calls Tryz.prog 25 #[.slice p xs.length c] w fun e w' => (∃ v, e = .returned v ∧ w'.ownsRow w.heap.size 36 3 v xs.length (flF xs)) ∧ Below w.heap.size w w' := by
  cases p with
  | none =>
    have hx : xs = [] := by
      rcases h with h | ⟨g, o, e, -⟩
      · exact h
      · cases e
    subst hx
    obtain rfl := hc rfl
    have q0 := eql_nil none 0 0 w
    go_enter Tryz.func25, Tryz.ntmps25
    go_wp2_with fail
    go_ret
    exact ⟨⟨_, rfl, World.ownsRow_nil _ _ _ _⟩, Below.refl _ _⟩
  | some a =>
    have hb0 : Below w.heap.size w (w.alloc (.cells #[] 36)) := (Below.refl _ _).alloc (Nat.le_refl _) _
    obtain ⟨v', w1, hr, ho, hb, -, -, -⟩ := app_any (w.alloc (.cells #[] 36)) w.heap.size (by simp) (.slice (some ⟨w.heap.size, 0, none⟩) 0 0) 0 [] (World.ownsRow_made (base := w.heap.size) (e := 36) (size := 3) w #[] 0 (Nat.le_refl _) (Nat.zero_le _) rfl) (some a) xs c (h.below hb0) (by omega)
    have HR : Hid ((Builtin.append_ #[22, 22] 22 #[.slice (some ⟨w.heap.size, 0, none⟩) 0 0, .slice (some a) xs.length c]).run Tryz.prog (w.alloc (.cells #[] 36)) = .ok v' w1) := hr
    have HO : Hid (w1.ownsRow w.heap.size 36 3 v' xs.length (flF xs)) := by have := ho; unfold Hid; simpa using this
    have HB : Hid (Below w.heap.size w w1) := hb0.trans hb
    clear hr ho hb hb0 h
    generalize xs.length = n at *
    generalize flF xs = cs at *
    have q0 := eql_nil (some a) n c w
    go_enter Tryz.func25, Tryz.ntmps25
    go_wp2_with (first | (at_builtin; refine fm.wpList_append_eq rfl _ _ 22 rfl _ _ _ _ rfl rfl HR.out ?_))
    go_ret
    exact ⟨⟨_, rfl, HO.out⟩, HB.out⟩
end Go.Proofs.YtcekgefkimbfaaaGreatDoor.ps
/- The reference: is it a cell, which of two stands ahead; package rows: the line of a cell, the cell in another line; which lines there are. Conditions: as each theorem says. -/
namespace Go.Proofs.YtcekgefkimbfaaaGreatDoor.ps
open Go.RowKit
open adr (C isC ckc)
set_option maxHeartbeats 1000000 in
theorem rin_any (c r : Int) (w : World) :
    Calls Tryz.prog 11 #[C c r] w fun e w' => e = .returned (.bool (isC c r)) ∧ Below w.heap.size w w' := by
  by_cases h1 : 1 ≤ c
  · by_cases h2 : c ≤ 26
    · by_cases h3 : 1 ≤ r
      · have e1 : isC c r = decide (r ≤ 99) := by unfold isC; simp [h1, h2, h3]
        rw [e1]
        clear e1
        go_enter Tryz.func11, Tryz.ntmps11
        go_wp2
        go_ret
        exact ⟨by simp, (Below.refl _ _).alloc (Nat.le_refl _) _⟩
      · have e1 : isC c r = false := by unfold isC; simp [h3]
        rw [e1]
        clear e1
        go_enter Tryz.func11, Tryz.ntmps11
        go_wp2
        go_ret
        exact ⟨rfl, (Below.refl _ _).alloc (Nat.le_refl _) _⟩
    · have e1 : isC c r = false := by unfold isC; simp [h2]
      rw [e1]
      clear e1
      go_enter Tryz.func11, Tryz.ntmps11
      go_wp2
      go_ret
      exact ⟨rfl, (Below.refl _ _).alloc (Nat.le_refl _) _⟩
  · have e1 : isC c r = false := by unfold isC; simp [h1]
    rw [e1]
    clear e1
    go_enter Tryz.func11, Tryz.ntmps11
    go_wp2
    go_ret
    exact ⟨rfl, (Below.refl _ _).alloc (Nat.le_refl _) _⟩
set_option maxHeartbeats 1000000 in
theorem rahead_any (a b c d : Int) (w : World) :
    Calls Tryz.prog 23 #[C a b, C c d] w fun e w' => e = .returned (.bool (decide (cmpC a b c d < 0))) ∧ Below w.heap.size w w' := by
  have hS := PC.start w a b c d
  have HB : Hid (Below w.heap.size w ((w.alloc (.cells #[.int .i64 a, .int .i64 b] 34)).alloc (.cells #[.int .i64 c, .int .i64 d] 34))) := hS.below
  obtain ⟨y0, y1, y2, y3, -⟩ := hS.opened
  clear hS
  by_cases h : b = d
  · have e1 : decide (cmpC a b c d < 0) = decide (a < c) := by rw [decide_eq_decide, cmpC_lt]; omega
    rw [e1]
    subst h
    clear e1
    go_enter Tryz.func23, Tryz.ntmps23
    go_wp2
    go_ret
    exact ⟨rfl, HB.out⟩
  · have e1 : decide (cmpC a b c d < 0) = decide (b < d) := by rw [decide_eq_decide, cmpC_lt]; omega
    rw [e1]
    clear e1
    go_enter Tryz.func23, Tryz.ntmps23
    go_wp2
    go_ret
    exact ⟨rfl, HB.out⟩
/-- The line of a cell. -/
def lnO (row : Bool) (c r : Int) : Int := if row = true then r else c
theorem lineOf_any (row : Bool) (c r : Int) (w : World) :
    Calls Tryz.prog 36 #[C c r, .bool row] w fun e w' => e = .returned (.int .i64 (lnO row c r)) ∧ Below w.heap.size w w' := by
  cases row
  · go_enter Tryz.func36, Tryz.ntmps36
    go_wp2
    go_ret
    exact ⟨rfl, (Below.refl _ _).alloc (Nat.le_refl _) _⟩
  · go_enter Tryz.func36, Tryz.ntmps36
    go_wp2
    go_ret
    exact ⟨rfl, (Below.refl _ _).alloc (Nat.le_refl _) _⟩
/-- The cell in another line. -/
def inC (row : Bool) (c l : Int) : Int := if row = true then c else l
def inR (row : Bool) (r l : Int) : Int := if row = true then l else r
set_option maxHeartbeats 1000000 in
theorem inLine_any (row : Bool) (c r l : Int) (w : World) :
    Calls Tryz.prog 37 #[C c r, .bool row, .int .i64 l] w fun e w' => e = .returned (C (inC row c l) (inR row r l)) ∧ Below w.heap.size w w' := by
  cases row
  · go_enter Tryz.func37, Tryz.ntmps37
    go_wp2
    refine bodyPost_ret (v := C l r) (by simp [results, Tryz.results37, go_sem]) rfl ⟨rfl, ?_⟩
    exact ((Below.refl _ _).alloc (Nat.le_refl _) _).alloc (by simp) _
  · go_enter Tryz.func37, Tryz.ntmps37
    go_wp2
    refine bodyPost_ret (v := C c l) (by simp [results, Tryz.results37, go_sem]) rfl ⟨rfl, ?_⟩
    exact ((Below.refl _ _).alloc (Nat.le_refl _) _).alloc (by simp) _
/-- Is there such a line? -/
def isLn (row : Bool) (l : Int) : Bool := isC (inC row 1 l) (inR row 1 l)
set_option maxHeartbeats 1000000 in
theorem isLine_any (row : Bool) (l : Int) (w : World) :
    Calls Tryz.prog 35 #[.bool row, .int .i64 l] w fun e w' => e = .returned (.bool (isLn row l)) ∧ Below w.heap.size w w' := by
  have HL : Hid (∀ wx, Calls Tryz.prog 37 #[C 1 1, .bool row, .int .i64 l] wx fun e w' => e = .returned (C (inC row 1 l) (inR row 1 l)) ∧ Below wx.heap.size wx w') := fun wx => inLine_any row 1 1 l wx
  have HC : Hid (∀ wx, Calls Tryz.prog 47 #[C (inC row 1 l) (inR row 1 l)] wx fun e w' => e = .returned (ckc (isLn row l)) ∧ Below wx.heap.size wx w') := fun wx => adr.check_any _ _ wx
  generalize inC row 1 l = c at *
  generalize inR row 1 l = r at *
  generalize isLn row l = b at *
  go_enter Tryz.func35, Tryz.ntmps35
  go_wp2_with fail
  refine (HL.out _).mono ?_
  rintro e w1 ⟨rfl, hb1⟩
  go_wp2_with fail
  refine (HC.out _).mono ?_
  rintro e w2 ⟨rfl, hb2⟩
  have HB : Hid (Below w.heap.size w w2) := bnext hb1 hb2 hb1.size
  clear hb1 hb2
  cases b
  · rw [show ckc false = .iface 59 (.int .i64 1) from rfl]
    go_wp2_with fail
    go_ret
    exact ⟨rfl, HB.out⟩
  · rw [show ckc true = .nilIface from rfl]
    go_wp2_with fail
    go_ret
    exact ⟨rfl, HB.out⟩
theorem isLn_row (l : Int) : isLn true l = (decide (1 ≤ l) && decide (l ≤ 99)) := by
  unfold isLn inC inR isC
  simp
theorem isLn_col (l : Int) : isLn false l = (decide (1 ≤ l) && decide (l ≤ 26)) := by
  unfold isLn inC inR isC
  simp
set_option maxHeartbeats 1000000 in
theorem span_any (row : Bool) (l : Int) (w : World) :
    Calls Tryz.prog 33 #[.bool row, .int .i64 l, .int .i64 0] w fun e w' => e = .returned (.bool (isLn row l)) ∧ w' = w := by
  by_cases h1 : 1 ≤ l
  · cases row
    · have e1 : isLn false l = decide (l ≤ 26) := by rw [isLn_col]; simp [h1]
      rw [e1]
      clear e1
      by_cases h2 : l ≤ 26
      · go_enter Tryz.func33, Tryz.ntmps33
        go_wp2
        go_ret
        exact ⟨by simp [h2], rfl⟩
      · go_enter Tryz.func33, Tryz.ntmps33
        go_wp2
        go_ret
        exact ⟨by simp [h2], rfl⟩
    · have e1 : isLn true l = decide (l ≤ 99) := by rw [isLn_row]; simp [h1]
      rw [e1]
      clear e1
      by_cases h2 : l ≤ 99
      · go_enter Tryz.func33, Tryz.ntmps33
        go_wp2
        go_ret
        exact ⟨by simp [h2], rfl⟩
      · go_enter Tryz.func33, Tryz.ntmps33
        go_wp2
        go_ret
        exact ⟨by simp [h2], rfl⟩
  · have e1 : isLn row l = false := by cases row <;> simp [isLn_row, isLn_col, h1]
    rw [e1]
    clear e1
    cases row
    · go_enter Tryz.func33, Tryz.ntmps33
      go_wp2
      go_ret
      exact ⟨rfl, rfl⟩
    · go_enter Tryz.func33, Tryz.ntmps33
      go_wp2
      go_ret
      exact ⟨rfl, rfl⟩
end Go.Proofs.YtcekgefkimbfaaaGreatDoor.ps
