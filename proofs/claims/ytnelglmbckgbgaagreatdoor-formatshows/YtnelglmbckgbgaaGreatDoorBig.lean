
/- Whole numbers by words: the pieces that number a text. Conditions: as each theorem says. -/
import Derived.Test.YtnelglmbckgbgaaGreatDoorHold
import Derived.Test.YtnelglmbckgbgaaGreatDoorWords
import Derived.LoopN
namespace Go.Proofs.YtnelglmbckgbgaaGreatDoor
open Go.RowKit
/-- A slice of n words, word i being f i, each of 32 bits. -/
structure RdS (w : World) (b n cap : Nat) (f : Nat → Nat) : Prop where
  le : n ≤ cap
  lim : n ≤ 17592186044420
  capl : cap ≤ 9223372036854775807
  lt : b < w.heap.size
  cell : ∀ i, i < n → w.cell? ⟨b, i, none⟩ = some (.int .u32 (f i : Int))
  word : ∀ i, i < n → f i < 4294967296
def Rd (w : World) (v : Value) (n : Nat) (f : Nat → Nat) : Prop :=
  (v = .slice none 0 0 ∧ n = 0) ∨ ∃ b cap : Nat, v = .slice (some ⟨b, 0, none⟩) n cap ∧ RdS w b n cap f
theorem RdS.below {w w' : World} {b n cap : Nat} {f : Nat → Nat} {B : Nat} (h : RdS w b n cap f) (hb : Below B w w') (hB : b < B) : RdS w' b n cap f :=
  ⟨h.le, h.lim, h.capl, Nat.lt_of_lt_of_le h.lt hb.size, fun i hi => by rw [hb.cell (p := ⟨b, i, none⟩) hB]; exact h.cell i hi, h.word⟩
theorem Rd.below {w w' : World} {v : Value} {n : Nat} {f : Nat → Nat} (h : Rd w v n f) (hb : Below w.heap.size w w') : Rd w' v n f := by
  rcases h with h | ⟨b, cap, h1, h2⟩
  · exact Or.inl h
  · exact Or.inr ⟨b, cap, h1, h2.below hb h2.lt⟩
theorem Rd.word {w : World} {v : Value} {n : Nat} {f : Nat → Nat} (h : Rd w v n f) : ∀ i, i < n → f i < W32 := by
  rcases h with h | ⟨b, cap, h1, h2⟩
  · intro i hi; omega
  · exact h2.word
theorem Rd.lim {w : World} {v : Value} {n : Nat} {f : Nat → Nat} (h : Rd w v n f) : n ≤ 17592186044420 := by
  rcases h with h | ⟨b, cap, h1, h2⟩
  · omega
  · exact h2.lim
theorem RdS.cut {w : World} {b n m cap : Nat} {f : Nat → Nat} (h : RdS w b n cap f) (hm : m ≤ n) : RdS w b m cap f :=
  ⟨Nat.le_trans hm h.le, Nat.le_trans hm h.lim, h.capl, h.lt, fun i hi => h.cell i (by omega), fun i hi => h.word i (by omega)⟩
set_option maxHeartbeats 1000000 in
theorem trim_some (b n cap : Nat) (f : Nat → Nat) (w : World) (h : RdS w b n cap f) :
    Calls Tryz.prog 50 #[.slice (some ⟨b, 0, none⟩) n cap] w fun e w' => e = .returned (.slice (some ⟨b, 0, none⟩) (trimN n f) cap) ∧ w' = w := by
  obtain ⟨hc, hcap, hcl, _, hw, hf⟩ := h
  go_enter Tryz.func50, Tryz.ntmps50
  go_wp2
  go_loop [3] (fun t => ∃ k : Nat, k ≤ n ∧ t = .int .i64 k ∧ trimN n f = trimN k f) (fun t => (intOf t).toNat)
  case atStart => exact ⟨n, Nat.le_refl _, rfl, rfl⟩
  case round =>
    obtain ⟨k, hk, rfl, ht⟩ := hrel
    have HT : Hid (trimN n f = trimN k f) := ht
    clear ht
    match k, hk, HT with
    | 0, hk, HT =>
      go_wp2
      go_ret
      exact ⟨by rw [HT.out]; rfl, rfl⟩
    | k + 1, hk, HT =>
      have hcell := hw k (by omega)
      have hfk := hf k (by omega)
      by_cases z : f k = 0
      · have hz : ((f k : Int) == 0) = true := by simp [z]
        have HZ : Hid (f k = 0) := z
        clear z
        go_wp2
        exact ⟨⟨k, by omega, rfl, by rw [HT.out]; exact if_pos HZ.out⟩, by simp [intOf]⟩
      · have hz : ((f k : Int) == 0) = false := by simp [z]
        have HZ : Hid (¬ f k = 0) := z
        clear z
        go_wp2
        go_ret
        exact ⟨by rw [HT.out, show trimN (k + 1) f = k + 1 from if_neg HZ.out]; rfl, rfl⟩
set_option maxHeartbeats 1000000 in
theorem words_any (x : Nat) (w : World) (hx : x < 18446744073709551616) :
    Calls Tryz.prog 36 #[.int .u64 x] w fun e w' => (∃ v, e = .returned v ∧ Rd w' v (trimN 2 (wordF x)) (wordF x)) ∧ Below w.heap.size w w' := by
  have hr : RdS (w.alloc (.cells #[.int .u32 ((x : Int) % 4294967296), .int .u32 ((x : Int) / 4294967296)] 70)) w.heap.size 2 2 (wordF x) := by
    refine ⟨Nat.le_refl _, by decide, by decide, by simp, ?_, fun i _ => word_lt hx i⟩
    intro i hi
    match i, hi with
    | 0, _ => simp [wordF, W32]
    | 1, _ => simp [wordF, W32]
  go_enter Tryz.func36, Tryz.ntmps36
  go_wp2_with fail
  refine (trim_some _ _ _ (wordF x) _ hr).mono ?_
  rintro e w1 ⟨rfl, rfl⟩
  go_wp2_with fail
  go_ret
  exact ⟨⟨_, rfl, Or.inr ⟨_, _, rfl, hr.cut (trimN_le _ _)⟩⟩, (Below.refl _ _).alloc (Nat.le_refl _) _⟩
/-! A row of words that the call itself has made. -/
structure Row (w : World) (b N : Nat) (f : Nat → Nat) : Prop where
  lt : b < w.heap.size
  cell : ∀ i, i < N → w.cell? ⟨b, i, none⟩ = some (.int .u32 (f i : Int))
  free : ∀ i, w.frozen? ⟨b, i, none⟩ = false
theorem Row.congr {w : World} {b N : Nat} {f g : Nat → Nat} (h : Row w b N f) (e : ∀ i, i < N → f i = g i) : Row w b N g :=
  ⟨h.lt, fun i hi => by rw [← e i hi]; exact h.cell i hi, h.free⟩
theorem Row.below {w w' : World} {b N : Nat} {f : Nat → Nat} (h : Row w b N f) (hb : Below w.heap.size w w') : Row w' b N f :=
  ⟨Nat.lt_of_lt_of_le h.lt hb.size, fun i hi => by rw [hb.cell h.lt]; exact h.cell i hi, fun i => by rw [hb.frozen h.lt]; exact h.free i⟩
theorem Row.drew {w : World} {b N : Nat} {f : Nat → Nat} (h : Row w b N f) : Row w.drew b N f := ⟨h.lt, h.cell, h.free⟩
theorem Row.set {w : World} {b N : Nat} {f : Nat → Nat} (h : Row w b N f) (k : Nat) (hk : k < N) (v : Nat) : Row (w.setCell ⟨b, k, none⟩ (.int .u32 (v : Int))) b N (upd f k v) := by
  refine ⟨by simpa using h.lt, ?_, fun i => by simp [h.free i]⟩
  intro i hi
  by_cases e : i = k
  · subst e
    rw [World.cell?_setCell_same' _ _ _ (by rw [h.cell i hi]; rfl), upd_at]
  · rw [upd_off e, ← h.cell i hi]
    exact World.cell?_setCell_other _ _ _ _ (by intro q; injection q; omega)
/-- Noughts. -/
def zeros (n : Nat) : Array Value := madeCells #[.int .u32 0] n
theorem info85 : (Tryz.prog.info? 70).map (fun i => (i.zero, i.size, i.bytes)) = some (some (.int .u32 0), 1, 4) := by kernel_rfl
theorem make_u32 (n : Nat) (hn : n ≤ 17592186044420) (w : World) : (Instr.makeSlice 52 (.int .i64 (n : Int)) (.int .i64 (n : Int))).run Tryz.prog w = .ok (.slice (some ⟨w.heap.size, 0, none⟩) n n) (w.alloc (.cells (zeros n) 70)) := by
  obtain ⟨i0, hi, hz0, hz1, hz2⟩ := info_parts info85
  have := run_make (P := Tryz.prog) w 52 70 i0 (.int .u32 0) Tryz.underlying52 hi hz0 .i64 .i64 (n : Int) (n : Int) (by omega) (by omega) (by rw [hz2]; omega) (by omega)
  rw [this, hz1]
  simp [zeros, Value.cells]
theorem Row.zeros (w : World) (n : Nat) : Row (w.alloc (.cells (zeros n) 70)) w.heap.size n (fun _ => 0) := by
  refine ⟨by simp, ?_, fun i => by simp⟩
  intro i hi
  simp [YtnelglmbckgbgaaGreatDoor.zeros, madeCells, hi, Nat.mod_one]
theorem add_carry {f g : Nat → Nat} {m i : Nat} (h : i < m) : ((addC f (padF m g) i : Int) + f i + g i) / 4294967296 = (addC f (padF m g) (i + 1) : Int) := by
  simp [addC, padF, h, W32]
theorem add_carry0 {f g : Nat → Nat} {m i : Nat} (h : ¬ i < m) : ((addC f (padF m g) i : Int) + f i) / 4294967296 = (addC f (padF m g) (i + 1) : Int) := by
  simp [addC, padF, h, W32]
theorem add_digit {f g : Nat → Nat} {m i : Nat} (h : i < m) : ((addC f (padF m g) i : Int) + f i + g i) % 4294967296 = (addD f (padF m g) i : Int) := by
  simp [addD, padF, h, W32]
theorem add_digit0 {f g : Nat → Nat} {m i : Nat} (h : ¬ i < m) : ((addC f (padF m g) i : Int) + f i) % 4294967296 = (addD f (padF m g) i : Int) := by
  simp [addD, padF, h, W32]
/-- What stands after i rounds of a sum. -/
def sumTo (f g : Nat → Nat) (i : Nat) : Nat → Nat := fun k => if k < i then addD f g k else 0
theorem sumTo_step (f g : Nat → Nat) (i : Nat) : ∀ k, upd (sumTo f g i) i (addD f g i) k = sumTo f g (i + 1) k := by
  intro k
  unfold upd sumTo
  by_cases h : k = i
  · subst h; rw [if_pos rfl, if_pos (by omega)]
  · rw [if_neg h]
    by_cases h2 : k < i
    · rw [if_pos h2, if_pos (by omega)]
    · rw [if_neg h2, if_neg (by omega)]
theorem sumTo_last {n m : Nat} {f g : Nat → Nat} : ∀ k, k < n + 1 → upd (sumTo f (padF m g) n) n (addC f (padF m g) n) k = sumF n f m g k := by
  intro k hk
  unfold upd sumTo sumF
  by_cases h : k = n
  · subst h; rw [if_pos rfl, if_neg (by omega)]
  · rw [if_neg h, if_pos (by omega), if_pos (by omega)]
theorem sumF_lt {n m : Nat} {f g : Nat → Nat} (hf : ∀ i, i < n → f i < W32) (hg : ∀ i, i < m → g i < W32) : ∀ k, sumF n f m g k < 4294967296 := by
  intro k
  unfold sumF
  split
  · exact Nat.mod_lt _ (by decide)
  · have := addC_le f (padF m g) n hf (fun i _ => pad_lt hg i) n (Nat.le_refl _)
    omega
/-- A number by words, as Int keeps it. -/
def Num (w : World) (v : Value) (x : Nat) : Prop := ∃ n f, Rd w v n f ∧ Norm n f ∧ valN n f = x
theorem Num.below {w w' : World} {v : Value} {x : Nat} (h : Num w v x) (hb : Below w.heap.size w w') : Num w' v x := by
  obtain ⟨n, f, h1, h2, h3⟩ := h
  exact ⟨n, f, h1.below hb, h2, h3⟩
theorem num_trim {w : World} {v : Value} {n : Nat} {f : Nat → Nat} {x : Nat} (h : Rd w v (trimN n f) f) (hx : valN n f = x) : Num w v x :=
  ⟨_, f, h, trimN_norm _ _, by rw [valN_trim]; exact hx⟩
end Go.Proofs.YtnelglmbckgbgaaGreatDoor
