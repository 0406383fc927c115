
/- Two lists of numbers that grow side by side; rows that are taken by their numbers; what Pick and Any answer. Conditions: as each theorem says. -/
import Derived.Test.YtjbdpcnebilmbaaGreatDoorSe
import Derived.Test.YtjbdpcnebilmbaaGreatDoorSx
namespace Go.Proofs.YtjbdpcnebilmbaaGreatDoor.so
open Go.RowKit Go.Sort Go.Shelf
theorem own_keep {w w' : World} {base n t s : Nat} {v : Value} {xs : List Value} {row : Option Nat} (h : w.ownsRow base t s v n xs) (hg : w.grownBy w' row) (hne : ∀ g, v.ownBlock = some g → row ≠ some g) : w'.ownsRow base t s v n xs := by
  obtain ⟨h0, h | ⟨g, cap, cur, h1, h2, h3, h4⟩⟩ := h
  · exact ⟨h0, Or.inl h⟩
  · refine ⟨h0, Or.inr ⟨g, cap, cur, h1, h2, ?_, h4⟩⟩
    rw [hg.block g (Array.getElem?_eq_some_iff.1 h3).1 (fun e => hne g (by rw [h1]; rfl) e.symm)]
    exact h3
/-- Two lists of numbers, each in a block of its own. -/
structure I2 (w : World) (a : Value) (xs : List Int) (b : Value) (ys : List Int) (wx : World) : Prop where
  l : IV w a xs wx
  r : IV w b ys wx
  sep : ∀ g, a.ownBlock = some g → b.ownBlock ≠ some g
theorem I2.nil (w : World) : I2 w (.slice none 0 0) [] (.slice none 0 0) [] w := ⟨IV.nil w, IV.nil w, fun g h => by simp [Value.ownBlock] at h⟩
theorem I2.next {w : World} {a b : Value} {xs ys : List Int} {wx wy : World} (h : I2 w a xs b ys wx) (hb : Bw wx wy) : I2 w a xs b ys wy := ⟨h.l.next hb, h.r.next hb, h.sep⟩
theorem I2.swap {w : World} {a b : Value} {xs ys : List Int} {wx : World} (h : I2 w a xs b ys wx) : I2 w b ys a xs wx := ⟨h.r, h.l, fun g h1 h2 => h.sep g h2 h1⟩
theorem I2.one {w : World} {a b : Value} {xs ys : List Int} {wx : World} (h : I2 w a xs b ys wx) (hl : xs.length < 8796093022208) (y : Int) :
    ∃ g c w', (Builtin.append_ #[25, 25] 25 #[a, .slice (some ⟨wx.heap.size, 0, none⟩) 1 1]).run Tryz.prog (wx.alloc (.cells #[.int .i64 y] 3)) = .ok (.slice (some ⟨g, 0, none⟩) (xs.length + 1) c) w' ∧ I2 w (.slice (some ⟨g, 0, none⟩) (xs.length + 1) c) (xs ++ [y]) b ys w' := by
  obtain ⟨i0, hi, hz0, hz1, hz2⟩ := info_parts info3
  have hmax : maxLen = 9223372036854775807 := rfl
  have h1 := h.l.next (Bw.al wx (.cells #[.int .i64 y] 3))
  have h2 := h.r.next (Bw.al wx (.cells #[.int .i64 y] 3))
  obtain ⟨g, c, w', r1, r2, r3, r4, -⟩ := run_append_lies (P := Tryz.prog) (w := wx.alloc (.cells #[.int .i64 y] 3)) 25 25 w.heap.size 3 i0 (.int .i64 0) 1 8 Tryz.underlying25 hi hz0 hz1 hz2 rfl (by decide) a xs.length (ints xs) h1.own ⟨wx.heap.size, 0, none⟩ 1 1 [.int .i64 y] rfl (World.news_of_block (heap_alloc_new wx _)) (by simp [Value.oneCell']) (by decide) (by omega) (by omega) h1.below.size _ rfl
  have hbel := h1.below.grown r3 h1.below.size (fun q hq => (h1.own.lt q hq).1)
  refine ⟨g, c, w', r1, ⟨⟨?_, hbel⟩, ⟨own_keep h2.own r3 (fun q hq e => h.sep q e hq), hbel⟩, ?_⟩⟩
  · have e : ints (xs ++ [y]) = ints xs ++ [.int .i64 y] := by simp
    rw [e, List.length_append]
    exact r2
  · intro q hq hb
    have eq : q = g := by simpa [Value.ownBlock] using hq.symm
    subst eq
    rcases r4 with r4 | r4
    · exact h.sep q r4 hb
    · have := (h2.own.lt q hb).2
      omega
/-- The rows of which something holds, by their numbers. -/
def sel (P : Nat → Bool) : Nat → List Int
  | 0 => []
  | j + 1 => if P j = true then sel P j ++ [(j : Int)] else sel P j
theorem sel_len (P : Nat → Bool) (j : Nat) : (sel P j).length ≤ j := by
  induction j with
  | zero => simp [sel]
  | succ j ih =>
    unfold sel
    split
    · rw [List.length_append, List.length_singleton]; omega
    · omega
theorem sel_yes {P : Nat → Bool} {j : Nat} (h : P j = true) : sel P (j + 1) = sel P j ++ [(j : Int)] := by rw [sel, if_pos h]
theorem sel_no {P : Nat → Bool} {j : Nat} (h : P j = false) : sel P (j + 1) = sel P j := by rw [sel, if_neg (by simp [h])]
/-- Does a row meet all wants; one? -/
def metA (T : Tb) (n : Nat) (f : Nat → Wt) (i : Nat) : Bool := decide (mets (T.v i) f n = n)
def metO (T : Tb) (n : Nat) (f : Nat → Wt) (i : Nat) : Bool := decide (0 < mets (T.v i) f n)
/-- What Pick and Any answer. -/
def PK (T : Tb) (n : Nat) (f : Nat → Wt) (P : Nat → Bool) (w : World) (e : Ending) (w' : World) : Prop :=
  (∃ x v, e = .returned (.tuple #[v, errV x]) ∧ WF T n f x ∧ (x ≠ 0 → v = .slice none 0 0) ∧ (x = 0 → ∃ W, Bw w W ∧ IV W v (sel P T.q) w')) ∧ Bw w w'
theorem PK.im {T : Tb} {n : Nat} {f : Nat → Wt} {P : Nat → Bool} {w : World} {e : Ending} {w' : World} (h : PK T n f P w e w') {x : Int} (hx : WF T n f x) {j : Nat} (h0 : x ≠ 0 → j = 0) (h1 : x = 0 → j = T.q) :
    ∃ pv cv, e = .returned (.tuple #[.slice pv (sel P j).length cv, errV x]) ∧ IM w' pv (sel P j).length (fun i => (sel P j).getD i 0) ∧ Bw w w' := by
  obtain ⟨⟨x', v, rfl, hx', hn, hz⟩, hb⟩ := h
  have ex := hx'.one hx
  subst ex
  by_cases hx0 : x' = 0
  · obtain ⟨W, -, hv⟩ := hz hx0
    obtain ⟨pv, cv, rfl, him⟩ := hv.im
    rw [h1 hx0]
    exact ⟨pv, cv, rfl, him, hb⟩
  · rw [hn hx0, h0 hx0]
    exact ⟨none, 0, rfl, .inl rfl, hb⟩
end Go.Proofs.YtjbdpcnebilmbaaGreatDoor.so
