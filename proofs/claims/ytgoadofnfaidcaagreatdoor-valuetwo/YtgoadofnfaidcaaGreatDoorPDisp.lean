/- The program's Two and Mod, and that they answer as the reference's do. Conditions: as each theorem says. -/
import Derived.Test.YtgoadofnfaidcaaGreatDoorPTwo
import Derived.Test.YtgoadofnfaidcaaGreatDoorRTwo2
import Derived.Test.YtgoadofnfaidcaaGreatDoorOps
namespace Go.Proofs.YtgoadofnfaidcaaGreatDoor
open Go.RowKit
/-- What a call returns wherever the package variables hold what the text lays. -/
def Gives (F : Nat) (args : Array Value) (k n : Int) (s : ByteArray) : Prop := ∀ W, Env W → Calls Tryz.prog F args W fun e w' => e = .returned (V k n s) ∧ Below W.heap.size W w'
set_option maxRecDepth 100000 in
set_option maxHeartbeats 8000000 in
theorem ptwo_8 (k n : Int) (s : ByteArray) (k' n' : Int) (s' : ByteArray) (rk rn : Int) (rs : ByteArray) (hC : Gives 31 #[V k n s, V k' n' s', .func (.func 43) #[] #[]] rk rn rs) :
    Gives 18 #[.int .i64 8, V k n s, V k' n' s'] rk rn rs := by
  intro w hE
  have HC : Hid (Gives 31 #[V k n s, V k' n' s', .func (.func 43) #[] #[]] rk rn rs) := hC
  have hS := MS.start w k n s k' n' s'
  have hE0 := hS.env hE
  clear hC
  go_enter Tryz.func18, Tryz.ntmps18
  go_wp2_with fail
  refine (HC.out _ hE0).mono ?_
  rintro e w1 ⟨rfl, q1⟩
  replace hS := hS.next q1
  obtain ⟨⟨r0, r1, r2⟩, t0, t1, t2⟩ := cells3 hS.res
  have hB := hS.below
  go_wp2_with fail
  exact bodyPost_ret (v := V rk rn rs) (by simp [results, Tryz.results18, go_sem, r0, r1, r2]) rfl ⟨rfl, hB.trans (below3 (by omega))⟩
set_option maxRecDepth 100000 in
set_option maxHeartbeats 8000000 in
theorem ptwo_9 (k n : Int) (s : ByteArray) (k' n' : Int) (s' : ByteArray) (rk rn : Int) (rs : ByteArray) (hC : Gives 31 #[V k n s, V k' n' s', .func (.func 32) #[] #[]] rk rn rs) :
    Gives 18 #[.int .i64 9, V k n s, V k' n' s'] rk rn rs := by
  intro w hE
  have HC : Hid (Gives 31 #[V k n s, V k' n' s', .func (.func 32) #[] #[]] rk rn rs) := hC
  have hS := MS.start w k n s k' n' s'
  have hE0 := hS.env hE
  clear hC
  go_enter Tryz.func18, Tryz.ntmps18
  go_wp2_with fail
  refine (HC.out _ hE0).mono ?_
  rintro e w1 ⟨rfl, q1⟩
  replace hS := hS.next q1
  obtain ⟨⟨r0, r1, r2⟩, t0, t1, t2⟩ := cells3 hS.res
  have hB := hS.below
  go_wp2_with fail
  exact bodyPost_ret (v := V rk rn rs) (by simp [results, Tryz.results18, go_sem, r0, r1, r2]) rfl ⟨rfl, hB.trans (below3 (by omega))⟩
set_option maxRecDepth 100000 in
set_option maxHeartbeats 8000000 in
theorem ptwo_10 (k n : Int) (s : ByteArray) (k' n' : Int) (s' : ByteArray) (rk rn : Int) (rs : ByteArray) (hC : Gives 31 #[V k n s, V k' n' s', .func (.func 44) #[] #[]] rk rn rs) :
    Gives 18 #[.int .i64 10, V k n s, V k' n' s'] rk rn rs := by
  intro w hE
  have HC : Hid (Gives 31 #[V k n s, V k' n' s', .func (.func 44) #[] #[]] rk rn rs) := hC
  have hS := MS.start w k n s k' n' s'
  have hE0 := hS.env hE
  clear hC
  go_enter Tryz.func18, Tryz.ntmps18
  go_wp2_with fail
  refine (HC.out _ hE0).mono ?_
  rintro e w1 ⟨rfl, q1⟩
  replace hS := hS.next q1
  obtain ⟨⟨r0, r1, r2⟩, t0, t1, t2⟩ := cells3 hS.res
  have hB := hS.below
  go_wp2_with fail
  exact bodyPost_ret (v := V rk rn rs) (by simp [results, Tryz.results18, go_sem, r0, r1, r2]) rfl ⟨rfl, hB.trans (below3 (by omega))⟩
set_option maxRecDepth 100000 in
set_option maxHeartbeats 8000000 in
theorem ptwo_11 (k n : Int) (s : ByteArray) (k' n' : Int) (s' : ByteArray) (rk rn : Int) (rs : ByteArray) (hC : Gives 31 #[V k n s, V k' n' s', .func (.func 45) #[] #[]] rk rn rs) :
    Gives 18 #[.int .i64 11, V k n s, V k' n' s'] rk rn rs := by
  intro w hE
  have HC : Hid (Gives 31 #[V k n s, V k' n' s', .func (.func 45) #[] #[]] rk rn rs) := hC
  have hS := MS.start w k n s k' n' s'
  have hE0 := hS.env hE
  clear hC
  go_enter Tryz.func18, Tryz.ntmps18
  go_wp2_with fail
  refine (HC.out _ hE0).mono ?_
  rintro e w1 ⟨rfl, q1⟩
  replace hS := hS.next q1
  obtain ⟨⟨r0, r1, r2⟩, t0, t1, t2⟩ := cells3 hS.res
  have hB := hS.below
  go_wp2_with fail
  exact bodyPost_ret (v := V rk rn rs) (by simp [results, Tryz.results18, go_sem, r0, r1, r2]) rfl ⟨rfl, hB.trans (below3 (by omega))⟩
set_option maxRecDepth 100000 in
set_option maxHeartbeats 8000000 in
theorem ptwo_7 (k n : Int) (s : ByteArray) (k' n' : Int) (s' : ByteArray) (rk rn : Int) (rs : ByteArray) (hC : Gives 46 #[V k n s, V k' n' s'] rk rn rs) :
    Gives 18 #[.int .i64 7, V k n s, V k' n' s'] rk rn rs := by
  intro w hE
  have HC : Hid (Gives 46 #[V k n s, V k' n' s'] rk rn rs) := hC
  have hS := MS.start w k n s k' n' s'
  have hE0 := hS.env hE
  clear hC
  go_enter Tryz.func18, Tryz.ntmps18
  go_wp2_with fail
  refine (HC.out _ hE0).mono ?_
  rintro e w1 ⟨rfl, q1⟩
  replace hS := hS.next q1
  obtain ⟨⟨r0, r1, r2⟩, t0, t1, t2⟩ := cells3 hS.res
  have hB := hS.below
  go_wp2_with fail
  exact bodyPost_ret (v := V rk rn rs) (by simp [results, Tryz.results18, go_sem, r0, r1, r2]) rfl ⟨rfl, hB.trans (below3 (by omega))⟩
set_option maxRecDepth 100000 in
set_option maxHeartbeats 8000000 in
theorem ptwo_1 (k n : Int) (s : ByteArray) (k' n' : Int) (s' : ByteArray) (rk rn : Int) (rs : ByteArray) (hC : Gives 47 #[.int .i64 1, V k n s, V k' n' s'] rk rn rs) :
    Gives 18 #[.int .i64 1, V k n s, V k' n' s'] rk rn rs := by
  intro w hE
  have HC : Hid (Gives 47 #[.int .i64 1, V k n s, V k' n' s'] rk rn rs) := hC
  have hS := MS.start w k n s k' n' s'
  have hE0 := hS.env hE
  clear hC
  go_enter Tryz.func18, Tryz.ntmps18
  go_wp2_with fail
  refine (HC.out _ hE0).mono ?_
  rintro e w1 ⟨rfl, q1⟩
  replace hS := hS.next q1
  obtain ⟨⟨r0, r1, r2⟩, t0, t1, t2⟩ := cells3 hS.res
  have hB := hS.below
  go_wp2_with fail
  exact bodyPost_ret (v := V rk rn rs) (by simp [results, Tryz.results18, go_sem, r0, r1, r2]) rfl ⟨rfl, hB.trans (below3 (by omega))⟩
set_option maxRecDepth 100000 in
set_option maxHeartbeats 8000000 in
theorem ptwo_2 (k n : Int) (s : ByteArray) (k' n' : Int) (s' : ByteArray) (rk rn : Int) (rs : ByteArray) (hC : Gives 47 #[.int .i64 2, V k n s, V k' n' s'] rk rn rs) :
    Gives 18 #[.int .i64 2, V k n s, V k' n' s'] rk rn rs := by
  intro w hE
  have HC : Hid (Gives 47 #[.int .i64 2, V k n s, V k' n' s'] rk rn rs) := hC
  have hS := MS.start w k n s k' n' s'
  have hE0 := hS.env hE
  clear hC
  go_enter Tryz.func18, Tryz.ntmps18
  go_wp2_with fail
  refine (HC.out _ hE0).mono ?_
  rintro e w1 ⟨rfl, q1⟩
  replace hS := hS.next q1
  obtain ⟨⟨r0, r1, r2⟩, t0, t1, t2⟩ := cells3 hS.res
  have hB := hS.below
  go_wp2_with fail
  exact bodyPost_ret (v := V rk rn rs) (by simp [results, Tryz.results18, go_sem, r0, r1, r2]) rfl ⟨rfl, hB.trans (below3 (by omega))⟩
set_option maxRecDepth 100000 in
set_option maxHeartbeats 8000000 in
theorem ptwo_3 (k n : Int) (s : ByteArray) (k' n' : Int) (s' : ByteArray) (rk rn : Int) (rs : ByteArray) (hC : Gives 47 #[.int .i64 3, V k n s, V k' n' s'] rk rn rs) :
    Gives 18 #[.int .i64 3, V k n s, V k' n' s'] rk rn rs := by
  intro w hE
  have HC : Hid (Gives 47 #[.int .i64 3, V k n s, V k' n' s'] rk rn rs) := hC
  have hS := MS.start w k n s k' n' s'
  have hE0 := hS.env hE
  clear hC
  go_enter Tryz.func18, Tryz.ntmps18
  go_wp2_with fail
  refine (HC.out _ hE0).mono ?_
  rintro e w1 ⟨rfl, q1⟩
  replace hS := hS.next q1
  obtain ⟨⟨r0, r1, r2⟩, t0, t1, t2⟩ := cells3 hS.res
  have hB := hS.below
  go_wp2_with fail
  exact bodyPost_ret (v := V rk rn rs) (by simp [results, Tryz.results18, go_sem, r0, r1, r2]) rfl ⟨rfl, hB.trans (below3 (by omega))⟩
set_option maxRecDepth 100000 in
set_option maxHeartbeats 8000000 in
theorem ptwo_4 (k n : Int) (s : ByteArray) (k' n' : Int) (s' : ByteArray) (rk rn : Int) (rs : ByteArray) (hC : Gives 47 #[.int .i64 4, V k n s, V k' n' s'] rk rn rs) :
    Gives 18 #[.int .i64 4, V k n s, V k' n' s'] rk rn rs := by
  intro w hE
  have HC : Hid (Gives 47 #[.int .i64 4, V k n s, V k' n' s'] rk rn rs) := hC
  have hS := MS.start w k n s k' n' s'
  have hE0 := hS.env hE
  clear hC
  go_enter Tryz.func18, Tryz.ntmps18
  go_wp2_with fail
  refine (HC.out _ hE0).mono ?_
  rintro e w1 ⟨rfl, q1⟩
  replace hS := hS.next q1
  obtain ⟨⟨r0, r1, r2⟩, t0, t1, t2⟩ := cells3 hS.res
  have hB := hS.below
  go_wp2_with fail
  exact bodyPost_ret (v := V rk rn rs) (by simp [results, Tryz.results18, go_sem, r0, r1, r2]) rfl ⟨rfl, hB.trans (below3 (by omega))⟩
set_option maxRecDepth 100000 in
set_option maxHeartbeats 8000000 in
theorem ptwo_5 (k n : Int) (s : ByteArray) (k' n' : Int) (s' : ByteArray) (rk rn : Int) (rs : ByteArray) (hC : Gives 47 #[.int .i64 5, V k n s, V k' n' s'] rk rn rs) :
    Gives 18 #[.int .i64 5, V k n s, V k' n' s'] rk rn rs := by
  intro w hE
  have HC : Hid (Gives 47 #[.int .i64 5, V k n s, V k' n' s'] rk rn rs) := hC
  have hS := MS.start w k n s k' n' s'
  have hE0 := hS.env hE
  clear hC
  go_enter Tryz.func18, Tryz.ntmps18
  go_wp2_with fail
  refine (HC.out _ hE0).mono ?_
  rintro e w1 ⟨rfl, q1⟩
  replace hS := hS.next q1
  obtain ⟨⟨r0, r1, r2⟩, t0, t1, t2⟩ := cells3 hS.res
  have hB := hS.below
  go_wp2_with fail
  exact bodyPost_ret (v := V rk rn rs) (by simp [results, Tryz.results18, go_sem, r0, r1, r2]) rfl ⟨rfl, hB.trans (below3 (by omega))⟩
set_option maxRecDepth 100000 in
set_option maxHeartbeats 8000000 in
theorem ptwo_6 (k n : Int) (s : ByteArray) (k' n' : Int) (s' : ByteArray) (rk rn : Int) (rs : ByteArray) (hC : Gives 47 #[.int .i64 6, V k n s, V k' n' s'] rk rn rs) :
    Gives 18 #[.int .i64 6, V k n s, V k' n' s'] rk rn rs := by
  intro w hE
  have HC : Hid (Gives 47 #[.int .i64 6, V k n s, V k' n' s'] rk rn rs) := hC
  have hS := MS.start w k n s k' n' s'
  have hE0 := hS.env hE
  clear hC
  go_enter Tryz.func18, Tryz.ntmps18
  go_wp2_with fail
  refine (HC.out _ hE0).mono ?_
  rintro e w1 ⟨rfl, q1⟩
  replace hS := hS.next q1
  obtain ⟨⟨r0, r1, r2⟩, t0, t1, t2⟩ := cells3 hS.res
  have hB := hS.below
  go_wp2_with fail
  exact bodyPost_ret (v := V rk rn rs) (by simp [results, Tryz.results18, go_sem, r0, r1, r2]) rfl ⟨rfl, hB.trans (below3 (by omega))⟩
set_option maxRecDepth 100000 in
set_option maxHeartbeats 8000000 in
theorem pmod (k n : Int) (s : ByteArray) (k' n' : Int) (s' : ByteArray) (rk rn : Int) (rs : ByteArray) (hC : Gives 31 #[V k n s, V k' n' s', .func (.func 48) #[] #[]] rk rn rs) :
    Gives 19 #[V k n s, V k' n' s'] rk rn rs := by
  intro w hE
  have HC : Hid (Gives 31 #[V k n s, V k' n' s', .func (.func 48) #[] #[]] rk rn rs) := hC
  have hS := MS.start w k n s k' n' s'
  have hE0 := hS.env hE
  clear hC
  go_enter Tryz.func19, Tryz.ntmps19
  go_wp2_with fail
  refine (HC.out _ hE0).mono ?_
  rintro e w1 ⟨rfl, q1⟩
  replace hS := hS.next q1
  obtain ⟨⟨r0, r1, r2⟩, t0, t1, t2⟩ := cells3 hS.res
  have hB := hS.below
  go_wp2_with fail
  exact bodyPost_ret (v := V rk rn rs) (by simp [results, Tryz.results19, go_sem, r0, r1, r2]) rfl ⟨rfl, hB.trans (below3 (by omega))⟩
set_option maxRecDepth 100000 in
set_option maxHeartbeats 8000000 in
theorem ptwo_out (op : Int) (k n : Int) (s : ByteArray) (k' n' : Int) (s' : ByteArray) (e1 : (op == 1) = false) (e2 : (op == 2) = false) (e3 : (op == 3) = false) (e4 : (op == 4) = false) (e5 : (op == 5) = false) (e6 : (op == 6) = false) (e7 : (op == 7) = false) (e8 : (op == 8) = false) (e9 : (op == 9) = false) (e10 : (op == 10) = false) (e11 : (op == 11) = false) :
    Gives 18 #[.int .i64 op, V k n s, V k' n' s'] 4 4 nul := by
  intro w _
  have hS := MS.start w k n s k' n' s'
  go_enter Tryz.func18, Tryz.ntmps18
  go_wp2_with fail
  refine (bad_any _ _).mono ?_
  rintro e w1 ⟨rfl, q1⟩
  replace hS := hS.next q1
  obtain ⟨⟨r0, r1, r2⟩, t0, t1, t2⟩ := cells3 hS.res
  have hB := hS.below
  go_wp2_with fail
  exact bodyPost_ret (v := V 4 4 nul) (by simp [results, Tryz.results18, go_sem, r0, r1, r2]) rfl ⟨rfl, hB.trans (below3 (by omega))⟩
theorem ptwo_none (op : Int) (h : op < 1 ∨ 11 < op) (k n : Int) (s : ByteArray) (k' n' : Int) (s' : ByteArray) : Gives 18 #[.int .i64 op, V k n s, V k' n' s'] 4 4 nul :=
  ptwo_out op k n s k' n' s' (beq_eq_false_iff_ne.2 (by omega)) (beq_eq_false_iff_ne.2 (by omega)) (beq_eq_false_iff_ne.2 (by omega)) (beq_eq_false_iff_ne.2 (by omega)) (beq_eq_false_iff_ne.2 (by omega)) (beq_eq_false_iff_ne.2 (by omega)) (beq_eq_false_iff_ne.2 (by omega)) (beq_eq_false_iff_ne.2 (by omega)) (beq_eq_false_iff_ne.2 (by omega)) (beq_eq_false_iff_ne.2 (by omega)) (beq_eq_false_iff_ne.2 (by omega))
/-- Both Twos give one answer. -/
theorem two_agree (op : Int) (k n : Int) (s : ByteArray) (k' n' : Int) (s' : ByteArray) (hv : isVal k n s = true) (hv' : isVal k' n' s' = true) (hb : B64 n) (hb' : B64 n') :
    ∃ (rk rn : Int) (rs : ByteArray), Gives 18 #[.int .i64 op, V k n s, V k' n' s'] rk rn rs ∧ Gives 15 #[.int .i64 op, V k n s, V k' n' s'] rk rn rs := by
  by_cases hl : op < 1
  · exact ⟨_, _, _, ptwo_none op (Or.inl hl) k n s k' n' s', fun W _ => rtwo_low op hl k n s k' n' s' W⟩
  by_cases hh : 11 < op
  · exact ⟨_, _, _, ptwo_none op (Or.inr hh) k n s k' n' s', fun W _ => rtwo_high op hh k n s k' n' s' W⟩
  have hop : op = 1 ∨ op = 2 ∨ op = 3 ∨ op = 4 ∨ op = 5 ∨ op = 6 ∨ op = 7 ∨ op = 8 ∨ op = 9 ∨ op = 10 ∨ op = 11 := by omega
  clear hl hh
  rcases hop with rfl | rfl | rfl | rfl | rfl | rfl | rfl | rfl | rfl | rfl | rfl
  · by_cases h : k = 4
    · subst h
      exact ⟨_, _, _, ptwo_1 4 n s k' n' s' _ _ _ (fun W _ => hold_a 1 n s k' n' s' W), fun W _ => rtwo_a 1 (by omega) (by omega) n s k' n' s' W⟩
    have b4 : (k == 4) = false := beq_eq_false_iff_ne.2 h
    by_cases h' : k' = 4
    · subst h'
      exact ⟨_, _, _, ptwo_1 k n s 4 n' s' _ _ _ (fun W _ => hold_b 1 k n s n' s' W b4), fun W _ => rtwo_b 1 (by omega) (by omega) k n s n' s' b4 W⟩
    have b4' : (k' == 4) = false := beq_eq_false_iff_ne.2 h'
    exact ⟨_, _, _, ptwo_1 k n s k' n' s' _ _ _ (fun W _ => hold_1 k n s k' n' s' W b4 b4'), fun W _ => rtwo_1 k n s k' n' s' W b4 b4' hv hv'⟩
  · by_cases h : k = 4
    · subst h
      exact ⟨_, _, _, ptwo_2 4 n s k' n' s' _ _ _ (fun W _ => hold_a 2 n s k' n' s' W), fun W _ => rtwo_a 2 (by omega) (by omega) n s k' n' s' W⟩
    have b4 : (k == 4) = false := beq_eq_false_iff_ne.2 h
    by_cases h' : k' = 4
    · subst h'
      exact ⟨_, _, _, ptwo_2 k n s 4 n' s' _ _ _ (fun W _ => hold_b 2 k n s n' s' W b4), fun W _ => rtwo_b 2 (by omega) (by omega) k n s n' s' b4 W⟩
    have b4' : (k' == 4) = false := beq_eq_false_iff_ne.2 h'
    exact ⟨_, _, _, ptwo_2 k n s k' n' s' _ _ _ (fun W _ => hold_2 k n s k' n' s' W b4 b4'), fun W _ => rtwo_2 k n s k' n' s' W b4 b4' hv hv'⟩
  · by_cases h : k = 4
    · subst h
      exact ⟨_, _, _, ptwo_3 4 n s k' n' s' _ _ _ (fun W _ => hold_a 3 n s k' n' s' W), fun W _ => rtwo_a 3 (by omega) (by omega) n s k' n' s' W⟩
    have b4 : (k == 4) = false := beq_eq_false_iff_ne.2 h
    by_cases h' : k' = 4
    · subst h'
      exact ⟨_, _, _, ptwo_3 k n s 4 n' s' _ _ _ (fun W _ => hold_b 3 k n s n' s' W b4), fun W _ => rtwo_b 3 (by omega) (by omega) k n s n' s' b4 W⟩
    have b4' : (k' == 4) = false := beq_eq_false_iff_ne.2 h'
    exact ⟨_, _, _, ptwo_3 k n s k' n' s' _ _ _ (fun W _ => hold_3 k n s k' n' s' W b4 b4'), fun W _ => rtwo_3 k n s k' n' s' W b4 b4' hv hv'⟩
  · by_cases h : k = 4
    · subst h
      exact ⟨_, _, _, ptwo_4 4 n s k' n' s' _ _ _ (fun W _ => hold_a 4 n s k' n' s' W), fun W _ => rtwo_a 4 (by omega) (by omega) n s k' n' s' W⟩
    have b4 : (k == 4) = false := beq_eq_false_iff_ne.2 h
    by_cases h' : k' = 4
    · subst h'
      exact ⟨_, _, _, ptwo_4 k n s 4 n' s' _ _ _ (fun W _ => hold_b 4 k n s n' s' W b4), fun W _ => rtwo_b 4 (by omega) (by omega) k n s n' s' b4 W⟩
    have b4' : (k' == 4) = false := beq_eq_false_iff_ne.2 h'
    exact ⟨_, _, _, ptwo_4 k n s k' n' s' _ _ _ (fun W _ => hold_4 k n s k' n' s' W b4 b4'), fun W _ => rtwo_4 k n s k' n' s' W b4 b4' hv hv'⟩
  · by_cases h : k = 4
    · subst h
      exact ⟨_, _, _, ptwo_5 4 n s k' n' s' _ _ _ (fun W _ => hold_a 5 n s k' n' s' W), fun W _ => rtwo_a 5 (by omega) (by omega) n s k' n' s' W⟩
    have b4 : (k == 4) = false := beq_eq_false_iff_ne.2 h
    by_cases h' : k' = 4
    · subst h'
      exact ⟨_, _, _, ptwo_5 k n s 4 n' s' _ _ _ (fun W _ => hold_b 5 k n s n' s' W b4), fun W _ => rtwo_b 5 (by omega) (by omega) k n s n' s' b4 W⟩
    have b4' : (k' == 4) = false := beq_eq_false_iff_ne.2 h'
    exact ⟨_, _, _, ptwo_5 k n s k' n' s' _ _ _ (fun W _ => hold_5 k n s k' n' s' W b4 b4'), fun W _ => rtwo_5 k n s k' n' s' W b4 b4' hv hv'⟩
  · by_cases h : k = 4
    · subst h
      exact ⟨_, _, _, ptwo_6 4 n s k' n' s' _ _ _ (fun W _ => hold_a 6 n s k' n' s' W), fun W _ => rtwo_a 6 (by omega) (by omega) n s k' n' s' W⟩
    have b4 : (k == 4) = false := beq_eq_false_iff_ne.2 h
    by_cases h' : k' = 4
    · subst h'
      exact ⟨_, _, _, ptwo_6 k n s 4 n' s' _ _ _ (fun W _ => hold_b 6 k n s n' s' W b4), fun W _ => rtwo_b 6 (by omega) (by omega) k n s n' s' b4 W⟩
    have b4' : (k' == 4) = false := beq_eq_false_iff_ne.2 h'
    exact ⟨_, _, _, ptwo_6 k n s k' n' s' _ _ _ (fun W _ => hold_6 k n s k' n' s' W b4 b4'), fun W _ => rtwo_6 k n s k' n' s' W b4 b4' hv hv'⟩
  · by_cases h : k = 4
    · subst h
      exact ⟨_, _, _, ptwo_7 4 n s k' n' s' _ _ _ (fun W _ => cat_a n s k' n' s' W), fun W _ => rtwo_a 7 (by omega) (by omega) n s k' n' s' W⟩
    have b4 : (k == 4) = false := beq_eq_false_iff_ne.2 h
    by_cases h' : k' = 4
    · subst h'
      exact ⟨_, _, _, ptwo_7 k n s 4 n' s' _ _ _ (fun W _ => cat_b k n s n' s' W b4), fun W _ => rtwo_b 7 (by omega) (by omega) k n s n' s' b4 W⟩
    have b4' : (k' == 4) = false := beq_eq_false_iff_ne.2 h'
    by_cases hz : (sh k n s).size + (sh k' n' s').size ≤ 200
    · exact ⟨_, _, _, ptwo_7 k n s k' n' s' _ _ _ (fun W hE => (cat_any k n s k' n' s' W hE b4 b4' hv hv' hb hb').2 hz), fun W _ => (rtwo_cat k n s k' n' s' W b4 b4' hv hv' hb hb').2 hz⟩
    · exact ⟨_, _, _, ptwo_7 k n s k' n' s' _ _ _ (fun W hE => (cat_any k n s k' n' s' W hE b4 b4' hv hv' hb hb').1 (Nat.lt_of_not_le hz)), fun W _ => (rtwo_cat k n s k' n' s' W b4 b4' hv hv' hb hb').1 (Nat.lt_of_not_le hz)⟩
  · exact ⟨_, _, _, ptwo_8 k n s k' n' s' _ _ _ (fun W hE => ofAdd _ _ works_add k n s k' n' s' W hv hv' hb hb' hE), fun W _ => rtwo_num 8 (by omega) (by omega) _ _ recks_8 k n s k' n' s' W hv hv' hb hb'⟩
  · exact ⟨_, _, _, ptwo_9 k n s k' n' s' _ _ _ (fun W hE => ofSub _ _ works_sub k n s k' n' s' W hv hv' hb hb' hE), fun W _ => rtwo_num 9 (by omega) (by omega) _ _ recks_9 k n s k' n' s' W hv hv' hb hb'⟩
  · exact ⟨_, _, _, ptwo_10 k n s k' n' s' _ _ _ (fun W hE => ofMul _ _ works_mul k n s k' n' s' W hv hv' hb hb' hE), fun W _ => rtwo_num 10 (by omega) (by omega) _ _ recks_10 k n s k' n' s' W hv hv' hb hb'⟩
  · exact ⟨_, _, _, ptwo_11 k n s k' n' s' _ _ _ (fun W hE => ofDiv _ _ works_div k n s k' n' s' W hv hv' hb hb' hE), fun W _ => rtwo_num 11 (by omega) (by omega) _ _ recks_11 k n s k' n' s' W hv hv' hb hb'⟩
theorem mod_agree (k n : Int) (s : ByteArray) (k' n' : Int) (s' : ByteArray) (hv : isVal k n s = true) (hv' : isVal k' n' s' = true) (hb : B64 n) (hb' : B64 n') :
    ∃ (rk rn : Int) (rs : ByteArray), Gives 19 #[V k n s, V k' n' s'] rk rn rs ∧ Gives 20 #[V k n s, V k' n' s'] rk rn rs :=
  ⟨_, _, _, pmod k n s k' n' s' _ _ _ (fun W hE => ofMod _ _ works_mod k n s k' n' s' W hv hv' hb hb' hE), fun W _ => rmod_any k n s k' n' s' W hv hv' hb hb'⟩
end Go.Proofs.YtgoadofnfaidcaaGreatDoor
