/- Can what a node says be written? Nothing more in it? Conditions: none. -/
import Derived.Test.YtoaejcppfmjhdaaGreatDoorVd
import Derived.Test.YtoaejcppfmjhdaaGreatDoorFe4
import Derived.Test.YtoaejcppfmjhdaaGreatDoorArow
namespace Go.Proofs.YtoaejcppfmjhdaaGreatDoor.fm
open Go.RowKit
theorem isName_all (s : ByteArray) (w : World) :
    Calls Tryz.prog 134 #[.string s] w fun e w' => e = .returned (.bool (isNm s)) ∧ Below w.heap.size w w' := by
  by_cases hs : s.size ≤ 200
  · exact isName_any s w hs
  have h2 : ¬ (s.size : Int) < 2 := by omega
  have h10 : (10 : Int) < (s.size : Int) := by omega
  have hf : isNm s = false := by unfold isNm; rw [decide_eq_false (by omega : ¬ s.size ≤ 10)]; simp
  rw [hf]
  clear hf
  go_enter Tryz.func134, Tryz.ntmps134
  go_wp2_with fail
  go_ret
  exact ⟨rfl, Below.refl _ _⟩
theorem isRef_any (r : Rf) (w : World) :
    Calls Tryz.prog 225 #[RV r] w fun e w' => e = .returned (.bool (adr.isC r.c r.r)) ∧ Below w.heap.size w w' := by
  have hb0 : Below w.heap.size w (w.alloc (.cells #[.int .i64 r.c, .int .i64 r.r, .bool r.fc, .bool r.fr] 25)) := (Below.refl _ _).alloc (Nat.le_refl _) _
  obtain ⟨a0, a1, a2, a3⟩ := cells4 (blk_new w (.cells #[.int .i64 r.c, .int .i64 r.r, .bool r.fc, .bool r.fr] 25))
  have HC := adr.check_any r.c r.r
  go_enter Tryz.func225, Tryz.ntmps225
  go_wp2_with fail
  refine (HC _).mono ?_
  rintro e w1 ⟨rfl, hb1⟩
  cases h : adr.isC r.c r.r
  · unfold adr.ckc
    rw [if_neg (by decide)]
    go_wp2_with fail
    go_ret
    exact ⟨by rw [h]; rfl, bnext hb0 hb1 hb0.size⟩
  · unfold adr.ckc
    rw [if_pos rfl]
    go_wp2_with fail
    go_ret
    exact ⟨by rw [h]; rfl, bnext hb0 hb1 hb0.size⟩
def ftB (k n : Int) (s : ByteArray) (r t : Rf) (m : Nat) : Bool :=
  if k = 1 then decide (0 ≤ n)
  else if k = 2 then decide (s.size ≤ 200)
  else if k = 3 then decide (n = 0 ∨ n = 1)
  else if k = 4 then decide (1 ≤ n ∧ n ≤ 6)
  else if k = 5 then adr.isC r.c r.r
  else if k = 6 then adr.isC r.c r.r && adr.isC t.c t.r
  else if k = 7 then decide (m = 1)
  else if k = 8 then decide ((1 ≤ n ∧ n ≤ 11) ∧ m = 2)
  else if k = 9 then isNm s
  else false
theorem fits1 (n : Int) (s : ByteArray) (r t : Rf) (p : Option Addr) (m c : Nat) (w : World) :
    Calls Tryz.prog 138 #[NV 1 n s r t (.slice p m c)] w fun e w' => e = .returned (.bool (decide (0 ≤ n))) ∧ Below w.heap.size w w' := by
  have hb0 : Below w.heap.size w (w.alloc (.cells (N12 1 n s r t (.slice p m c)) 28)) := (Below.refl _ _).alloc (Nat.le_refl _) _
  obtain ⟨⟨a0, a1, a2, a3, a4, a5, a6, a7, a8, a9, a10, a11⟩, af⟩ := cells12 (blk_new w (.cells (N12 1 n s r t (.slice p m c)) 28))
  go_enter Tryz.func138, Tryz.ntmps138
  go_wp2_with fail
  all_goals (go_ret; refine ⟨congrArg Ending.returned (congrArg Value.bool ?_), (Below.refl _ _).alloc (Nat.le_refl _) _⟩; clear a0 a1 a2 a3 a4 a5 a6 a7 a8 a9 a10 a11 af; first | rfl | (simp; done) | (simp_all; done) | (rw [decide_eq_decide]; omega) | (simp; omega) | (simp_all; omega) | (rw [Bool.eq_iff_iff]; simp; done) | (rw [Bool.eq_iff_iff]; simp; omega))
theorem fits2 (n : Int) (s : ByteArray) (r t : Rf) (p : Option Addr) (m c : Nat) (w : World) :
    Calls Tryz.prog 138 #[NV 2 n s r t (.slice p m c)] w fun e w' => e = .returned (.bool (decide (s.size ≤ 200))) ∧ Below w.heap.size w w' := by
  have hb0 : Below w.heap.size w (w.alloc (.cells (N12 2 n s r t (.slice p m c)) 28)) := (Below.refl _ _).alloc (Nat.le_refl _) _
  obtain ⟨⟨a0, a1, a2, a3, a4, a5, a6, a7, a8, a9, a10, a11⟩, af⟩ := cells12 (blk_new w (.cells (N12 2 n s r t (.slice p m c)) 28))
  go_enter Tryz.func138, Tryz.ntmps138
  go_wp2_with fail
  all_goals (go_ret; refine ⟨congrArg Ending.returned (congrArg Value.bool ?_), (Below.refl _ _).alloc (Nat.le_refl _) _⟩; clear a0 a1 a2 a3 a4 a5 a6 a7 a8 a9 a10 a11 af; first | rfl | (simp; done) | (simp_all; done) | (rw [decide_eq_decide]; omega) | (simp; omega) | (simp_all; omega) | (rw [Bool.eq_iff_iff]; simp; done) | (rw [Bool.eq_iff_iff]; simp; omega))
theorem fits3 (n : Int) (s : ByteArray) (r t : Rf) (p : Option Addr) (m c : Nat) (w : World) :
    Calls Tryz.prog 138 #[NV 3 n s r t (.slice p m c)] w fun e w' => e = .returned (.bool (decide (n = 0 ∨ n = 1))) ∧ Below w.heap.size w w' := by
  have hb0 : Below w.heap.size w (w.alloc (.cells (N12 3 n s r t (.slice p m c)) 28)) := (Below.refl _ _).alloc (Nat.le_refl _) _
  obtain ⟨⟨a0, a1, a2, a3, a4, a5, a6, a7, a8, a9, a10, a11⟩, af⟩ := cells12 (blk_new w (.cells (N12 3 n s r t (.slice p m c)) 28))
  go_enter Tryz.func138, Tryz.ntmps138
  go_wp2_with fail
  all_goals (go_ret; refine ⟨congrArg Ending.returned (congrArg Value.bool ?_), (Below.refl _ _).alloc (Nat.le_refl _) _⟩; clear a0 a1 a2 a3 a4 a5 a6 a7 a8 a9 a10 a11 af; first | rfl | (simp; done) | (simp_all; done) | (rw [decide_eq_decide]; omega) | (simp; omega) | (simp_all; omega) | (rw [Bool.eq_iff_iff]; simp; done) | (rw [Bool.eq_iff_iff]; simp; omega))
theorem fits4 (n : Int) (s : ByteArray) (r t : Rf) (p : Option Addr) (m c : Nat) (w : World) :
    Calls Tryz.prog 138 #[NV 4 n s r t (.slice p m c)] w fun e w' => e = .returned (.bool (decide (1 ≤ n ∧ n ≤ 6))) ∧ Below w.heap.size w w' := by
  have hb0 : Below w.heap.size w (w.alloc (.cells (N12 4 n s r t (.slice p m c)) 28)) := (Below.refl _ _).alloc (Nat.le_refl _) _
  obtain ⟨⟨a0, a1, a2, a3, a4, a5, a6, a7, a8, a9, a10, a11⟩, af⟩ := cells12 (blk_new w (.cells (N12 4 n s r t (.slice p m c)) 28))
  go_enter Tryz.func138, Tryz.ntmps138
  go_wp2_with fail
  all_goals (go_ret; refine ⟨congrArg Ending.returned (congrArg Value.bool ?_), (Below.refl _ _).alloc (Nat.le_refl _) _⟩; clear a0 a1 a2 a3 a4 a5 a6 a7 a8 a9 a10 a11 af; first | rfl | (simp; done) | (simp_all; done) | (rw [decide_eq_decide]; omega) | (simp; omega) | (simp_all; omega) | (rw [Bool.eq_iff_iff]; simp; done) | (rw [Bool.eq_iff_iff]; simp; omega))
theorem fits5 (n : Int) (s : ByteArray) (r t : Rf) (p : Option Addr) (m c : Nat) (w : World) :
    Calls Tryz.prog 138 #[NV 5 n s r t (.slice p m c)] w fun e w' => e = .returned (.bool (adr.isC r.c r.r)) ∧ Below w.heap.size w w' := by
  have hb0 : Below w.heap.size w (w.alloc (.cells (N12 5 n s r t (.slice p m c)) 28)) := (Below.refl _ _).alloc (Nat.le_refl _) _
  obtain ⟨⟨a0, a1, a2, a3, a4, a5, a6, a7, a8, a9, a10, a11⟩, af⟩ := cells12 (blk_new w (.cells (N12 5 n s r t (.slice p m c)) 28))
  go_enter Tryz.func138, Tryz.ntmps138
  go_wp2_with fail
  refine (isRef_any r _).mono ?_
  rintro e w1 ⟨rfl, hb1⟩
  go_wp2_with fail
  go_ret
  exact ⟨rfl, bnext hb0 hb1 hb0.size⟩
theorem fits6 (n : Int) (s : ByteArray) (r t : Rf) (p : Option Addr) (m c : Nat) (w : World) :
    Calls Tryz.prog 138 #[NV 6 n s r t (.slice p m c)] w fun e w' => e = .returned (.bool (adr.isC r.c r.r && adr.isC t.c t.r)) ∧ Below w.heap.size w w' := by
  have hb0 : Below w.heap.size w (w.alloc (.cells (N12 6 n s r t (.slice p m c)) 28)) := (Below.refl _ _).alloc (Nat.le_refl _) _
  obtain ⟨⟨a0, a1, a2, a3, a4, a5, a6, a7, a8, a9, a10, a11⟩, af⟩ := cells12 (blk_new w (.cells (N12 6 n s r t (.slice p m c)) 28))
  go_enter Tryz.func138, Tryz.ntmps138
  go_wp2_with fail
  refine (isRef_any r _).mono ?_
  rintro e w1 ⟨rfl, hb1⟩
  have hB1 := bnext hb0 hb1 hb0.size
  have q := hb1.block w.heap.size (by simp)
  rw [blk_new] at q
  obtain ⟨⟨a0, a1, a2, a3, a4, a5, a6, a7, a8, a9, a10, a11⟩, af⟩ := cells12 q
  cases h : adr.isC r.c r.r
  · go_wp2_with fail
    go_ret
    exact ⟨by rw [h]; rfl, hB1⟩
  · go_wp2_with fail
    refine (isRef_any t _).mono ?_
    rintro e w2 ⟨rfl, hb2⟩
    go_wp2_with fail
    go_ret
    exact ⟨by rw [h]; rfl, bnext hB1 hb2 hB1.size⟩
theorem fits7 (n : Int) (s : ByteArray) (r t : Rf) (p : Option Addr) (m c : Nat) (w : World) :
    Calls Tryz.prog 138 #[NV 7 n s r t (.slice p m c)] w fun e w' => e = .returned (.bool (decide (m = 1))) ∧ Below w.heap.size w w' := by
  have hb0 : Below w.heap.size w (w.alloc (.cells (N12 7 n s r t (.slice p m c)) 28)) := (Below.refl _ _).alloc (Nat.le_refl _) _
  obtain ⟨⟨a0, a1, a2, a3, a4, a5, a6, a7, a8, a9, a10, a11⟩, af⟩ := cells12 (blk_new w (.cells (N12 7 n s r t (.slice p m c)) 28))
  go_enter Tryz.func138, Tryz.ntmps138
  go_wp2_with fail
  all_goals (go_ret; refine ⟨congrArg Ending.returned (congrArg Value.bool ?_), (Below.refl _ _).alloc (Nat.le_refl _) _⟩; clear a0 a1 a2 a3 a4 a5 a6 a7 a8 a9 a10 a11 af; first | rfl | (simp; done) | (simp_all; done) | (rw [decide_eq_decide]; omega) | (simp; omega) | (simp_all; omega) | (rw [Bool.eq_iff_iff]; simp; done) | (rw [Bool.eq_iff_iff]; simp; omega))
theorem fits8 (n : Int) (s : ByteArray) (r t : Rf) (p : Option Addr) (m c : Nat) (w : World) :
    Calls Tryz.prog 138 #[NV 8 n s r t (.slice p m c)] w fun e w' => e = .returned (.bool (decide ((1 ≤ n ∧ n ≤ 11) ∧ m = 2))) ∧ Below w.heap.size w w' := by
  have hb0 : Below w.heap.size w (w.alloc (.cells (N12 8 n s r t (.slice p m c)) 28)) := (Below.refl _ _).alloc (Nat.le_refl _) _
  obtain ⟨⟨a0, a1, a2, a3, a4, a5, a6, a7, a8, a9, a10, a11⟩, af⟩ := cells12 (blk_new w (.cells (N12 8 n s r t (.slice p m c)) 28))
  go_enter Tryz.func138, Tryz.ntmps138
  go_wp2_with fail
  all_goals (go_ret; refine ⟨congrArg Ending.returned (congrArg Value.bool ?_), (Below.refl _ _).alloc (Nat.le_refl _) _⟩; clear a0 a1 a2 a3 a4 a5 a6 a7 a8 a9 a10 a11 af; first | rfl | (simp; done) | (simp_all; done) | (rw [decide_eq_decide]; omega) | (simp; omega) | (simp_all; omega) | (rw [Bool.eq_iff_iff]; simp; done) | (rw [Bool.eq_iff_iff]; simp; omega))
theorem fits9 (n : Int) (s : ByteArray) (r t : Rf) (p : Option Addr) (m c : Nat) (w : World) :
    Calls Tryz.prog 138 #[NV 9 n s r t (.slice p m c)] w fun e w' => e = .returned (.bool (isNm s)) ∧ Below w.heap.size w w' := by
  have hb0 : Below w.heap.size w (w.alloc (.cells (N12 9 n s r t (.slice p m c)) 28)) := (Below.refl _ _).alloc (Nat.le_refl _) _
  obtain ⟨⟨a0, a1, a2, a3, a4, a5, a6, a7, a8, a9, a10, a11⟩, af⟩ := cells12 (blk_new w (.cells (N12 9 n s r t (.slice p m c)) 28))
  go_enter Tryz.func138, Tryz.ntmps138
  go_wp2_with fail
  refine (isName_all s _).mono ?_
  rintro e w1 ⟨rfl, hb1⟩
  go_wp2_with fail
  go_ret
  exact ⟨rfl, bnext hb0 hb1 hb0.size⟩
theorem fitsx (k n : Int) (h1 : ¬ k = 1) (h2 : ¬ k = 2) (h3 : ¬ k = 3) (h4 : ¬ k = 4) (h5 : ¬ k = 5) (h6 : ¬ k = 6) (h7 : ¬ k = 7) (h8 : ¬ k = 8) (h9 : ¬ k = 9) (s : ByteArray) (r t : Rf) (p : Option Addr) (m c : Nat) (w : World) :
    Calls Tryz.prog 138 #[NV k n s r t (.slice p m c)] w fun e w' => e = .returned (.bool false) ∧ Below w.heap.size w w' := by
  have hb0 : Below w.heap.size w (w.alloc (.cells (N12 k n s r t (.slice p m c)) 28)) := (Below.refl _ _).alloc (Nat.le_refl _) _
  obtain ⟨⟨a0, a1, a2, a3, a4, a5, a6, a7, a8, a9, a10, a11⟩, af⟩ := cells12 (blk_new w (.cells (N12 k n s r t (.slice p m c)) 28))
  go_enter Tryz.func138, Tryz.ntmps138
  go_wp2_with fail
  go_ret
  exact ⟨rfl, hb0⟩
theorem fits_any (k n : Int) (s : ByteArray) (r t : Rf) (p : Option Addr) (m c : Nat) (w : World) :
    Calls Tryz.prog 138 #[NV k n s r t (.slice p m c)] w fun e w' => e = .returned (.bool (ftB k n s r t m)) ∧ Below w.heap.size w w' := by
  unfold ftB
  by_cases h1 : k = 1
  · subst h1; exact fits1 n s r t p m c w
  rw [if_neg h1]
  by_cases h2 : k = 2
  · subst h2; exact fits2 n s r t p m c w
  rw [if_neg h2]
  by_cases h3 : k = 3
  · subst h3; exact fits3 n s r t p m c w
  rw [if_neg h3]
  by_cases h4 : k = 4
  · subst h4; exact fits4 n s r t p m c w
  rw [if_neg h4]
  by_cases h5 : k = 5
  · subst h5; exact fits5 n s r t p m c w
  rw [if_neg h5]
  by_cases h6 : k = 6
  · subst h6; exact fits6 n s r t p m c w
  rw [if_neg h6]
  by_cases h7 : k = 7
  · subst h7; exact fits7 n s r t p m c w
  rw [if_neg h7]
  by_cases h8 : k = 8
  · subst h8; exact fits8 n s r t p m c w
  rw [if_neg h8]
  by_cases h9 : k = 9
  · subst h9; exact fits9 n s r t p m c w
  rw [if_neg h9]
  exact fitsx k n h1 h2 h3 h4 h5 h6 h7 h8 h9 s r t p m c w
def lfB (n : Int) (s : ByteArray) (r t : Rf) (m : Nat) : Bool :=
  (n != 0) || !s.toList.isEmpty || !((r.c == 0) && (r.r == 0) && !r.fc && !r.fr) || !((t.c == 0) && (t.r == 0) && !t.fc && !t.fr) || decide ((0 : Int) < (m : Int))
def hmB (k n : Int) (s : ByteArray) (r t : Rf) (m : Nat) : Bool :=
  if k = 1 then lfB 0 s r t m
  else if k = 2 then lfB n nul r t m
  else if k = 3 then lfB 0 s r t m
  else if k = 4 then lfB 0 s r t m
  else if k = 5 then lfB n s .z t m
  else if k = 6 then lfB n s .z .z m
  else if k = 7 then lfB n s r t 0
  else if k = 8 then lfB 0 s r t 0
  else if k = 9 then lfB n nul r t 0
  else lfB n s r t m
set_option maxHeartbeats 2000000 in
theorem more1 (n : Int) (s : ByteArray) (r t : Rf) (p : Option Addr) (m c : Nat) (w : World) :
    Calls Tryz.prog 139 #[NV 1 n s r t (.slice p m c)] w fun e w' => e = .returned (.bool (lfB 0 s r t m)) ∧ Below w.heap.size w w' := by
  obtain ⟨⟨a0, a1, a2, a3, a4, a5, a6, a7, a8, a9, a10, a11⟩, af⟩ := cells12 (blk_new w (.cells (N12 1 n s r t (.slice p m c)) 28))
  go_enter Tryz.func139, Tryz.ntmps139
  go_wp2_with fail
  all_goals (go_ret; refine ⟨congrArg Ending.returned (congrArg Value.bool ?_), (Below.refl _ _).alloc (Nat.le_refl _) _⟩; clear a0 a1 a2 a3 a4 a5 a6 a7 a8 a9 a10 a11 af; simp_all [lfB])
set_option maxHeartbeats 2000000 in
theorem more2 (n : Int) (s : ByteArray) (r t : Rf) (p : Option Addr) (m c : Nat) (w : World) :
    Calls Tryz.prog 139 #[NV 2 n s r t (.slice p m c)] w fun e w' => e = .returned (.bool (lfB n nul r t m)) ∧ Below w.heap.size w w' := by
  obtain ⟨⟨a0, a1, a2, a3, a4, a5, a6, a7, a8, a9, a10, a11⟩, af⟩ := cells12 (blk_new w (.cells (N12 2 n s r t (.slice p m c)) 28))
  go_enter Tryz.func139, Tryz.ntmps139
  go_wp2_with fail
  all_goals (go_ret; refine ⟨congrArg Ending.returned (congrArg Value.bool ?_), (Below.refl _ _).alloc (Nat.le_refl _) _⟩; clear a0 a1 a2 a3 a4 a5 a6 a7 a8 a9 a10 a11 af; simp_all [lfB])
set_option maxHeartbeats 2000000 in
theorem more3 (n : Int) (s : ByteArray) (r t : Rf) (p : Option Addr) (m c : Nat) (w : World) :
    Calls Tryz.prog 139 #[NV 3 n s r t (.slice p m c)] w fun e w' => e = .returned (.bool (lfB 0 s r t m)) ∧ Below w.heap.size w w' := by
  obtain ⟨⟨a0, a1, a2, a3, a4, a5, a6, a7, a8, a9, a10, a11⟩, af⟩ := cells12 (blk_new w (.cells (N12 3 n s r t (.slice p m c)) 28))
  go_enter Tryz.func139, Tryz.ntmps139
  go_wp2_with fail
  all_goals (go_ret; refine ⟨congrArg Ending.returned (congrArg Value.bool ?_), (Below.refl _ _).alloc (Nat.le_refl _) _⟩; clear a0 a1 a2 a3 a4 a5 a6 a7 a8 a9 a10 a11 af; simp_all [lfB])
set_option maxHeartbeats 2000000 in
theorem more4 (n : Int) (s : ByteArray) (r t : Rf) (p : Option Addr) (m c : Nat) (w : World) :
    Calls Tryz.prog 139 #[NV 4 n s r t (.slice p m c)] w fun e w' => e = .returned (.bool (lfB 0 s r t m)) ∧ Below w.heap.size w w' := by
  obtain ⟨⟨a0, a1, a2, a3, a4, a5, a6, a7, a8, a9, a10, a11⟩, af⟩ := cells12 (blk_new w (.cells (N12 4 n s r t (.slice p m c)) 28))
  go_enter Tryz.func139, Tryz.ntmps139
  go_wp2_with fail
  all_goals (go_ret; refine ⟨congrArg Ending.returned (congrArg Value.bool ?_), (Below.refl _ _).alloc (Nat.le_refl _) _⟩; clear a0 a1 a2 a3 a4 a5 a6 a7 a8 a9 a10 a11 af; simp_all [lfB])
set_option maxHeartbeats 2000000 in
theorem more5 (n : Int) (s : ByteArray) (r t : Rf) (p : Option Addr) (m c : Nat) (w : World) :
    Calls Tryz.prog 139 #[NV 5 n s r t (.slice p m c)] w fun e w' => e = .returned (.bool (lfB n s .z t m)) ∧ Below w.heap.size w w' := by
  obtain ⟨⟨a0, a1, a2, a3, a4, a5, a6, a7, a8, a9, a10, a11⟩, af⟩ := cells12 (blk_new w (.cells (N12 5 n s r t (.slice p m c)) 28))
  go_enter Tryz.func139, Tryz.ntmps139
  go_wp2_with fail
  all_goals (go_ret; refine ⟨congrArg Ending.returned (congrArg Value.bool ?_), (Below.refl _ _).alloc (Nat.le_refl _) _⟩; clear a0 a1 a2 a3 a4 a5 a6 a7 a8 a9 a10 a11 af; simp_all [lfB])
set_option maxHeartbeats 2000000 in
theorem more6 (n : Int) (s : ByteArray) (r t : Rf) (p : Option Addr) (m c : Nat) (w : World) :
    Calls Tryz.prog 139 #[NV 6 n s r t (.slice p m c)] w fun e w' => e = .returned (.bool (lfB n s .z .z m)) ∧ Below w.heap.size w w' := by
  obtain ⟨⟨a0, a1, a2, a3, a4, a5, a6, a7, a8, a9, a10, a11⟩, af⟩ := cells12 (blk_new w (.cells (N12 6 n s r t (.slice p m c)) 28))
  go_enter Tryz.func139, Tryz.ntmps139
  go_wp2_with fail
  all_goals (go_ret; refine ⟨congrArg Ending.returned (congrArg Value.bool ?_), (Below.refl _ _).alloc (Nat.le_refl _) _⟩; clear a0 a1 a2 a3 a4 a5 a6 a7 a8 a9 a10 a11 af; simp_all [lfB])
set_option maxHeartbeats 2000000 in
theorem more7 (n : Int) (s : ByteArray) (r t : Rf) (p : Option Addr) (m c : Nat) (w : World) :
    Calls Tryz.prog 139 #[NV 7 n s r t (.slice p m c)] w fun e w' => e = .returned (.bool (lfB n s r t 0)) ∧ Below w.heap.size w w' := by
  obtain ⟨⟨a0, a1, a2, a3, a4, a5, a6, a7, a8, a9, a10, a11⟩, af⟩ := cells12 (blk_new w (.cells (N12 7 n s r t (.slice p m c)) 28))
  go_enter Tryz.func139, Tryz.ntmps139
  go_wp2_with fail
  all_goals (go_ret; refine ⟨congrArg Ending.returned (congrArg Value.bool ?_), (Below.refl _ _).alloc (Nat.le_refl _) _⟩; clear a0 a1 a2 a3 a4 a5 a6 a7 a8 a9 a10 a11 af; simp_all [lfB])
set_option maxHeartbeats 2000000 in
theorem more8 (n : Int) (s : ByteArray) (r t : Rf) (p : Option Addr) (m c : Nat) (w : World) :
    Calls Tryz.prog 139 #[NV 8 n s r t (.slice p m c)] w fun e w' => e = .returned (.bool (lfB 0 s r t 0)) ∧ Below w.heap.size w w' := by
  obtain ⟨⟨a0, a1, a2, a3, a4, a5, a6, a7, a8, a9, a10, a11⟩, af⟩ := cells12 (blk_new w (.cells (N12 8 n s r t (.slice p m c)) 28))
  go_enter Tryz.func139, Tryz.ntmps139
  go_wp2_with fail
  all_goals (go_ret; refine ⟨congrArg Ending.returned (congrArg Value.bool ?_), (Below.refl _ _).alloc (Nat.le_refl _) _⟩; clear a0 a1 a2 a3 a4 a5 a6 a7 a8 a9 a10 a11 af; simp_all [lfB])
set_option maxHeartbeats 2000000 in
theorem more9 (n : Int) (s : ByteArray) (r t : Rf) (p : Option Addr) (m c : Nat) (w : World) :
    Calls Tryz.prog 139 #[NV 9 n s r t (.slice p m c)] w fun e w' => e = .returned (.bool (lfB n nul r t 0)) ∧ Below w.heap.size w w' := by
  obtain ⟨⟨a0, a1, a2, a3, a4, a5, a6, a7, a8, a9, a10, a11⟩, af⟩ := cells12 (blk_new w (.cells (N12 9 n s r t (.slice p m c)) 28))
  go_enter Tryz.func139, Tryz.ntmps139
  go_wp2_with fail
  all_goals (go_ret; refine ⟨congrArg Ending.returned (congrArg Value.bool ?_), (Below.refl _ _).alloc (Nat.le_refl _) _⟩; clear a0 a1 a2 a3 a4 a5 a6 a7 a8 a9 a10 a11 af; simp_all [lfB])
set_option maxHeartbeats 2000000 in
theorem morex (k n : Int) (h1 : ¬ k = 1) (h2 : ¬ k = 2) (h3 : ¬ k = 3) (h4 : ¬ k = 4) (h5 : ¬ k = 5) (h6 : ¬ k = 6) (h7 : ¬ k = 7) (h8 : ¬ k = 8) (h9 : ¬ k = 9) (s : ByteArray) (r t : Rf) (p : Option Addr) (m c : Nat) (w : World) :
    Calls Tryz.prog 139 #[NV k n s r t (.slice p m c)] w fun e w' => e = .returned (.bool (lfB n s r t m)) ∧ Below w.heap.size w w' := by
  obtain ⟨⟨a0, a1, a2, a3, a4, a5, a6, a7, a8, a9, a10, a11⟩, af⟩ := cells12 (blk_new w (.cells (N12 k n s r t (.slice p m c)) 28))
  go_enter Tryz.func139, Tryz.ntmps139
  go_wp2_with fail
  all_goals (go_ret; refine ⟨congrArg Ending.returned (congrArg Value.bool ?_), (Below.refl _ _).alloc (Nat.le_refl _) _⟩; clear a0 a1 a2 a3 a4 a5 a6 a7 a8 a9 a10 a11 af; simp_all [lfB])
theorem more_any (k n : Int) (s : ByteArray) (r t : Rf) (p : Option Addr) (m c : Nat) (w : World) :
    Calls Tryz.prog 139 #[NV k n s r t (.slice p m c)] w fun e w' => e = .returned (.bool (hmB k n s r t m)) ∧ Below w.heap.size w w' := by
  unfold hmB
  by_cases h1 : k = 1
  · subst h1; exact more1 n s r t p m c w
  rw [if_neg h1]
  by_cases h2 : k = 2
  · subst h2; exact more2 n s r t p m c w
  rw [if_neg h2]
  by_cases h3 : k = 3
  · subst h3; exact more3 n s r t p m c w
  rw [if_neg h3]
  by_cases h4 : k = 4
  · subst h4; exact more4 n s r t p m c w
  rw [if_neg h4]
  by_cases h5 : k = 5
  · subst h5; exact more5 n s r t p m c w
  rw [if_neg h5]
  by_cases h6 : k = 6
  · subst h6; exact more6 n s r t p m c w
  rw [if_neg h6]
  by_cases h7 : k = 7
  · subst h7; exact more7 n s r t p m c w
  rw [if_neg h7]
  by_cases h8 : k = 8
  · subst h8; exact more8 n s r t p m c w
  rw [if_neg h8]
  by_cases h9 : k = 9
  · subst h9; exact more9 n s r t p m c w
  rw [if_neg h9]
  exact morex k n h1 h2 h3 h4 h5 h6 h7 h8 h9 s r t p m c w
end Go.Proofs.YtoaejcppfmjhdaaGreatDoor.fm
/- Which nodes can be written: what the program asks, and what chapter 3 says. Condition: numbers of 64 bits. -/
namespace Go.Proofs.YtoaejcppfmjhdaaGreatDoor.fm
open Go.RowKit
def dollar (t : Bool) : List UInt8 := if t = true then [36] else []
/-- How the program writes numbers and refs. -/
def ink : Ink := ⟨Lib.itoa, fun r => dollar r.fc ++ UInt8.ofNat (64 + r.c.toNat) :: (dollar r.fr ++ Lib.decDigits r.r.toNat), fun r => adr.isC r.c r.r = true⟩
def Wf (t : T) : Prop := ∃ x d, W ink t x d
/-- Numbers are of 64 bits, lists of children are below 2^47. -/
inductive Ok : T → Prop
  | mk {k n : Int} {s : ByteArray} {r t : Rf} {ts : List T} (hn : n ≤ 9223372036854775807) (hl : ts.length ≤ 9223372036854775807) (hs : ∀ (i : Nat) u, ts[i]? = some u → Ok u) : Ok (.nd k n s r t ts)
theorem Ok.bd {t : T} (h : Ok t) : Bd 9223372036854775807 t := by
  induction h with
  | mk hn hl hs ih => exact .mk hl ih
theorem WL.cons {K : Ink} {ts : List T} {xs : List (List UInt8)} {ds : List Nat} {t : T} {x : List UInt8} {d : Nat} (h : WL K ts xs ds) (ht : W K t x d) : WL K (t :: ts) (x :: xs) (d :: ds) := by
  refine ⟨by simp [h.x], by simp [h.d], fun i u y e h1 h2 h3 => ?_⟩
  cases i with
  | zero => simp at h1 h2 h3; subst h1 h2 h3; exact ht
  | succ i => exact h.h i u y e (by simpa using h1) (by simpa using h2) (by simpa using h3)
theorem wl_of : ∀ (ts : List T), (∀ (i : Nat) u, ts[i]? = some u → Wf u) → ∃ xs ds, WL ink ts xs ds
  | [], _ => ⟨[], [], .nil⟩
  | t :: ts, h => by
    obtain ⟨xs, ds, hw⟩ := wl_of ts (fun i u hu => h (i + 1) u (by simpa using hu))
    obtain ⟨x, d, hx⟩ := h 0 t (by simp)
    exact ⟨_, _, hw.cons hx⟩
theorem nul_of {s : ByteArray} (h : s.toList.isEmpty = true) : s = nul := by
  rw [ByteArray.toList_eq] at h
  have : s.data.toList = [] := by simpa using h
  apply ByteArray.ext
  apply Array.ext'
  rw [this]
theorem z_of {r : Rf} (h : ((r.c == 0) && (r.r == 0) && !r.fc && !r.fr) = true) : r = .z := by
  cases r
  simp at h
  simp [h]
theorem lf_no {n : Int} {s : ByteArray} {r t : Rf} {m : Nat} (h : lfB n s r t m = false) : (n = 0 ∧ s = nul) ∧ r = .z ∧ t = .z ∧ m = 0 := by
  unfold lfB at h
  simp only [Bool.or_eq_false_iff, Bool.not_eq_false'] at h
  obtain ⟨⟨⟨⟨h1, h2⟩, h3⟩, h4⟩, h5⟩ := h
  exact ⟨⟨by simpa using h1, nul_of h2⟩, z_of h3, z_of h4, by simpa using h5⟩
theorem lf_yes : lfB 0 nul .z .z 0 = false := by decide +kernel
theorem len0 {ts : List T} (h : ts.length = 0) : ts = [] := List.length_eq_zero_iff.1 h
theorem wf_iff {k n : Int} {s : ByteArray} {r t : Rf} {ts : List T} (hn : n ≤ 9223372036854775807) :
    Wf (.nd k n s r t ts) ↔ (ftB k n s r t ts.length = true ∧ hmB k n s r t ts.length = false) ∧ ∀ (i : Nat) u, ts[i]? = some u → (u.kd ≠ 6 ∨ k = 9) ∧ Wf u := by
  constructor
  · rintro ⟨x, d, h⟩
    cases h with
    | num h0 h1 => exact ⟨⟨by simp [ftB, h0], by simp [hmB, lf_yes]⟩, fun i u hu => by simp at hu⟩
    | text h => exact ⟨⟨by simp [ftB, h], by simp [hmB, lf_yes]⟩, fun i u hu => by simp at hu⟩
    | truth h => exact ⟨⟨by simp [ftB, h], by simp [hmB, lf_yes]⟩, fun i u hu => by simp at hu⟩
    | bad h h6 => exact ⟨⟨by simp [ftB]; omega, by simp [hmB, lf_yes]⟩, fun i u hu => by simp at hu⟩
    | ref h => exact ⟨⟨by simp [ftB]; exact h, by simp [hmB, lf_yes]⟩, fun i u hu => by simp at hu⟩
    | box h h2 => exact ⟨⟨by simp [ftB]; exact ⟨h, h2⟩, by simp [hmB, lf_yes]⟩, fun i u hu => by simp at hu⟩
    | neg ha h =>
      refine ⟨⟨by simp [ftB], by simp [hmB, lf_yes]⟩, fun i u hu => ?_⟩
      cases i with
      | zero => simp at hu; subst hu; exact ⟨.inl ha, _, _, h⟩
      | succ i => simp at hu
    | two h1 h11 ha hb hx hy =>
      refine ⟨⟨by simp [ftB]; omega, by simp [hmB, lf_yes]⟩, fun i u hu => ?_⟩
      match i with
      | 0 => simp at hu; subst hu; exact ⟨.inl ha, _, _, hx⟩
      | 1 => simp at hu; subst hu; exact ⟨.inl hb, _, _, hy⟩
      | i + 2 => simp at hu
    | @call name ts xs ds hn hx hd h =>
      refine ⟨⟨by simp [ftB, hn], by simp [hmB, lf_yes]⟩, fun i u hu => ⟨.inr rfl, ?_⟩⟩
      have hi := (List.getElem?_eq_some_iff.1 hu).1
      exact ⟨_, _, h i u _ _ hu (List.getElem?_eq_getElem (by omega)) (List.getElem?_eq_getElem (by omega))⟩
  · rintro ⟨⟨h1, h2⟩, h3⟩
    unfold ftB at h1
    unfold hmB at h2
    by_cases k1 : k = 1
    · subst k1; simp only [if_pos] at h1 h2
      obtain ⟨⟨_, rfl⟩, rfl, rfl, hm⟩ := lf_no h2
      obtain rfl := len0 hm
      exact ⟨_, _, .num (by simpa using h1) hn⟩
    rw [if_neg k1] at h1 h2
    by_cases k1 : k = 2
    · subst k1; simp only [if_pos] at h1 h2
      obtain ⟨⟨rfl, _⟩, rfl, rfl, hm⟩ := lf_no h2
      obtain rfl := len0 hm
      exact ⟨_, _, .text (by simpa using h1)⟩
    rw [if_neg k1] at h1 h2
    by_cases k1 : k = 3
    · subst k1; simp only [if_pos] at h1 h2
      obtain ⟨⟨_, rfl⟩, rfl, rfl, hm⟩ := lf_no h2
      obtain rfl := len0 hm
      exact ⟨_, _, .truth (by simpa using h1)⟩
    rw [if_neg k1] at h1 h2
    by_cases k1 : k = 4
    · subst k1; simp only [if_pos] at h1 h2
      obtain ⟨⟨_, rfl⟩, rfl, rfl, hm⟩ := lf_no h2
      obtain rfl := len0 hm
      simp at h1
      obtain ⟨n', rfl⟩ : ∃ n' : Nat, n = (n' : Int) := ⟨n.toNat, by omega⟩
      exact ⟨_, _, .bad (by omega) (by omega)⟩
    rw [if_neg k1] at h1 h2
    by_cases k1 : k = 5
    · subst k1; simp only [if_pos] at h1 h2
      obtain ⟨⟨rfl, rfl⟩, _, rfl, hm⟩ := lf_no h2
      obtain rfl := len0 hm
      exact ⟨_, _, .ref h1⟩
    rw [if_neg k1] at h1 h2
    by_cases k1 : k = 6
    · subst k1; simp only [if_pos] at h1 h2
      obtain ⟨⟨rfl, rfl⟩, _, _, hm⟩ := lf_no h2
      obtain rfl := len0 hm
      rw [Bool.and_eq_true] at h1
      exact ⟨_, _, .box h1.1 h1.2⟩
    rw [if_neg k1] at h1 h2
    by_cases k1 : k = 7
    · subst k1; simp only [if_pos] at h1 h2
      obtain ⟨⟨rfl, rfl⟩, rfl, rfl, _⟩ := lf_no h2
      obtain ⟨a, rfl⟩ := List.length_eq_one_iff.1 (by simpa using h1)
      obtain ⟨ha, x, d, hx⟩ := h3 0 a (by simp)
      exact ⟨_, _, .neg (ha.resolve_right (by decide)) hx⟩
    rw [if_neg k1] at h1 h2
    by_cases k1 : k = 8
    · subst k1; simp only [if_pos] at h1 h2
      obtain ⟨⟨_, rfl⟩, rfl, rfl, _⟩ := lf_no h2
      simp at h1
      obtain ⟨a, b, rfl⟩ : ∃ a b, ts = [a, b] := by
        match ts, h1.2 with
        | [a, b], _ => exact ⟨a, b, rfl⟩
      obtain ⟨ha, x, d, hx⟩ := h3 0 a (by simp)
      obtain ⟨hb, y, e, hy⟩ := h3 1 b (by simp)
      obtain ⟨n', rfl⟩ : ∃ n' : Nat, n = (n' : Int) := ⟨n.toNat, by omega⟩
      exact ⟨_, _, .two (by omega) (by omega) (ha.resolve_right (by decide)) (hb.resolve_right (by decide)) hx hy⟩
    rw [if_neg k1] at h1 h2
    by_cases k1 : k = 9
    · subst k1; simp only [if_pos] at h1 h2
      obtain ⟨⟨rfl, _⟩, rfl, rfl, _⟩ := lf_no h2
      obtain ⟨xs, ds, hw⟩ := wl_of ts (fun i u hu => (h3 i u hu).2)
      exact ⟨_, _, .call h1 hw.x hw.d hw.h⟩
    rw [if_neg k1] at h1
    cases h1
end Go.Proofs.YtoaejcppfmjhdaaGreatDoor.fm
