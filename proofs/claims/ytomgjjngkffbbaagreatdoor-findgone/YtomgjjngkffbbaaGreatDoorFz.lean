
/- The program's Parse, for every text. Conditions: the package variables as the program's text has them; the text has at most 2^47 bytes. -/
import Derived.Test.YtomgjjngkffbbaaGreatDoorFv
import Derived.Test.YtomgjjngkffbbaaGreatDoorFq
import Derived.Defers
import Derived.Recover
import Derived.Stop.Asserts
namespace Go.Proofs.YtomgjjngkffbbaaGreatDoor.fm
open Go.RowKit
theorem leafs (s : ByteArray) (hs : s.size ≤ 200) : Leafs lexP s EnvF :=
  { keep := fun h hk hx => h.keep hk hx
    size := fun h => h.env.size
    opYes := fun rb k d l w hE hR hk hrb _ _ hc => operator_yes s hs rb k d l w hE hR hk hrb hc
    opNo := fun rb k d l w hE hR hk hrb _ _ hc => operator_no s hs rb k d l w hE hR hk hrb hc
    quoted := fun rb k d w _ hR hk _ => quoted_any s hs rb k d w hR hk _ rfl
    bad := fun rb k d w hE hR hk hrb => bad_any s hs rb k d w hE hR hk hrb _ rfl
    name := fun t w ht => isName_any t w ht
    meanYes := fun t w u hE ht hm => by
      have hm : meanOf t = some u := hm
      unfold meanOf at hm
      cases hr : refOf t with
      | some r =>
        rw [hr] at hm
        cases hm
        refine (mean_ref t w hE ht r hr).mono ?_
        rintro e w1 ⟨rfl, hb⟩
        exact ⟨⟨5, 0, nul, r, .z, rfl, rfl⟩, hb⟩
      | none =>
        rw [hr] at hm
        simp only at hm
        split at hm
        · next h1 =>
          cases hm
          refine (mean_num t w hE ht (rd t).2.1 (rd t).2.2 hr (by rw [← h1])).mono ?_
          rintro e w1 ⟨rfl, hb⟩
          exact ⟨⟨1, _, nul, .z, .z, rfl, rfl⟩, hb⟩
        · split at hm
          · next h3 =>
            cases hm
            refine (mean_tru t w hE ht (rd t).2.1 (rd t).2.2 hr (by rw [← h3])).mono ?_
            rintro e w1 ⟨rfl, hb⟩
            exact ⟨⟨3, _, nul, .z, .z, rfl, rfl⟩, hb⟩
          · cases hm
    meanNo := fun t w hE ht hm => by
      have hm : meanOf t = none := hm
      unfold meanOf at hm
      cases hr : refOf t with
      | some r => rw [hr] at hm; cases hm
      | none =>
        rw [hr] at hm
        simp only at hm
        split at hm
        · cases hm
        · next h1 =>
          split at hm
          · cases hm
          · next h3 => exact mean_none t w hE ht (rd t).1 (rd t).2.1 (rd t).2.2 hr rfl h1 h3
    refYes := fun t w r ht h => ref_yes t w r ht h
    refNo := fun t w ht h => ref_no t w ht h }
/-- What the program's reading of a whole text ends in. -/
def OutF (w : World) (r : Rs T) (e : Ending) (w' : World) : Prop :=
  match r with
  | .ok t _ => ∃ v, e = .returned v ∧ Nd w' (Own w w') v t ∧ Below w.heap.size w w'
  | .err k c => e = .panicked [{ v := flt k c, recovered := false }] ∧ Below w.heap.size w w'
theorem rd_new (w : World) (s : ByteArray) (k : Nat) : RD ((w.alloc (.cells NZ 77)).alloc (.cells #[.string s, .int .i64 k, .int .i64 0] 208)) (w.heap.size + 1) s k 0 := by
  have := blk_new (w.alloc (.cells NZ 77)) (.cells #[.string s, .int .i64 k, .int .i64 0] 208)
  simpa [RD] using this
theorem kp_below {w w' : World} {rb : Nat} (h : Kp (· = rb) w w') (hb : w.heap.size ≤ rb) : Below w.heap.size w w' := h.toBelow (Nat.le_refl _) (fun n hn e => by omega)
set_option maxHeartbeats 4000000 in
theorem readFormula_any (s : ByteArray) (w : World) (hE : EnvF w) (hs : s.size ≤ 140737488355328) (RR : Rs T) (hRR : parse lexP s = RR) :
    Calls Tryz.prog 113 #[.string s] w (OutF w RR) := by
  have hR0 : RD ((w.alloc (.cells NZ 77)).alloc (.cells #[.string s, .int .i64 0, .int .i64 0] 208)) (w.heap.size + 1) s 0 0 := rd_new w s 0
  have hK0 : Kp (· = w.heap.size + 1) w ((w.alloc (.cells NZ 77)).alloc (.cells #[.string s, .int .i64 0, .int .i64 0] 208)) := ((Kp.refl _ w).alloc _).alloc _
  have HRR : Hid (parse lexP s = RR) := hRR
  clear hRR
  by_cases h200 : 200 < s.size
  · have h200' : (200 : Int) < (s.size : Int) := by omega
    have HRT : Hid (RR = .err 0 4) := by
      have h1 := HRR.out
      unfold parse at h1
      rw [if_pos h200] at h1
      exact h1.symm
    clear h200 HRR
    go_enter Tryz.func113, Tryz.ntmps113
    go_wp2_with fail
    refine (fault_any _ 0 0 4 s _ hR0).mono ?_
    rintro e w1 ⟨rfl, hb⟩
    go_wp2_with fail
    refine ⟨rfl, ?_⟩
    rw [HRT.out]
    exact ⟨rfl, kp_below (hK0.below hb) (by omega)⟩
  have hle : ¬ (200 : Int) < (s.size : Int) := by omega
  by_cases h61 : nx s 0 = 61
  · have hpos := nx_lt (s := s) (k := 0) (by omega)
    have HF := leafs s (by omega)
    have HRD := reads_to HF (by omega) s.size
    have HX : Hid (nx s 0 = 61) := h61
    have HQ : Hid ((Expr lexP s 1 0 1).bind (fun t k => if skip s k < s.size then .err (skip s k) 2 else .ok t 0) = RR) := by
      have h1 := HRR.out
      unfold parse at h1
      rw [if_neg h200, if_neg (by simpa using h61)] at h1
      exact h1
    clear h61 HRR
    have hR1 : RD ((w.alloc (.cells NZ 77)).alloc (.cells #[.string s, .int .i64 1, .int .i64 0] 208)) (w.heap.size + 1) s 1 0 := rd_new w s 1
    have hK1 : Kp (· = w.heap.size + 1) w ((w.alloc (.cells NZ 77)).alloc (.cells #[.string s, .int .i64 1, .int .i64 0] 208)) := ((Kp.refl _ w).alloc _).alloc _
    have hq1 : ((w.alloc (.cells NZ 77)).alloc (.cells #[.string s, .int .i64 1, .int .i64 0] 208)).heap[w.heap.size]? = some (.cells NZ 77 (0, 0)) := by rw [Below.heap_alloc _ _ _ (by simp)]; exact blk_new _ _
    have hsz := hE.env.size
    have HE1 : Hid (EnvF ((w.alloc (.cells NZ 77)).alloc (.cells #[.string s, .int .i64 1, .int .i64 0] 208))) := hE.keep hK1 (fun n e => by omega)
    have HC := constant_any s
    have HCC : Hid (∀ w, Calls Tryz.prog 83 #[.string s] w fun e w' => e = .returned (.bool (!decide (nx s 0 = 61))) ∧ w' = w) := HC
    have HRDD : Hid (ReadsTo lexP s EnvF s.size) := HRD
    clear HC HRD HF hR0 hK0
    go_enter Tryz.func113, Tryz.ntmps113
    go_wp2_with fail
    refine (HCC.out _).mono ?_
    rintro e w1 ⟨rfl, rfl⟩
    rw [decide_eq_true HX.out]
    go_wp2_with fail
    refine ((HRDD.out _ _ 0 _ HE1.out hR1 (by omega) (by omega) (by omega) (by omega)).2.1 1 (Nat.le_refl _) (by omega)).mono ?_
    clear HE1 HRDD
    generalize hwx : (w.alloc (.cells NZ 77)).alloc (.cells #[.string s, .int .i64 1, .int .i64 0] 208) = wx at *
    clear hwx
    intro e w2 ho
    cases hx : Expr lexP s 1 0 1 with
    | err k' c =>
      rw [hx] at ho
      obtain ⟨rfl, hK2⟩ := ho
      have HRT : Hid (RR = .err k' c) := by
        have h1 := HQ.out
        rw [hx] at h1
        exact h1.symm
      clear hx HQ
      go_wp2_with fail
      refine ⟨rfl, ?_⟩
      rw [HRT.out]
      exact ⟨rfl, kp_below (hK1.trans hK2 (fun n e => .inl e)) (by omega)⟩
    | ok t k' =>
      have hpg := Expr_prog lexP s (Nat.le_refl _) (by omega) hx
      rw [hx] at ho
      have HQ2 : Hid ((if skip s k' < s.size then .err (skip s k') 2 else .ok t 0) = RR) := by
        have h1 := HQ.out
        rw [hx] at h1
        exact h1
      clear hx HQ
      obtain ⟨v, rfl, hN, hR2, hK2⟩ := ho
      have hK2w := hK1.trans hK2 (fun n e => .inl e)
      have hq2 := hK2.blk hq1 (by omega)
      cases hN with
      | @mk a1 n1 s1 r1 t1 p1 m1 e1 us ts hk hl hs' =>
      have hN := Nd.mk (k := a1) (n := n1) (s := s1) (r := r1) (t := t1) hk hl hs'
      clear hk hl hs'
      have hKa := (Kp.refl (fun _ => False) w2).alloc (.cells (N12 a1 n1 s1 r1 t1 (.slice p1 m1 e1)) 77)
      have hn3 := blk_new w2 (.cells (N12 a1 n1 s1 r1 t1 (.slice p1 m1 e1)) 77)
      have hR3 := hR2.alloc (.cells (N12 a1 n1 s1 r1 t1 (.slice p1 m1 e1)) 77)
      have hq3 := hKa.blk hq2 id
      have hN3 := hN.next hKa (fun n e => e.elim)
      have hK3 := hK2w.alloc (.cells (N12 a1 n1 s1 r1 t1 (.slice p1 m1 e1)) 77)
      have hlx := lt_blk hq1
      have hl2 : w.heap.size + 1 ≠ w2.heap.size := by have := hR2.lt; omega
      have hl3 : w.heap.size < w2.heap.size := lt_blk hq2
      have hsx := hK1.size
      have hs2 := hK2.size
      have HLL : Hid (w.heap.size < w2.heap.size ∧ w.heap.size < wx.heap.size ∧ w.heap.size + 1 < w2.heap.size) := ⟨hl3, hlx, hR2.lt⟩
      clear hl3 hlx hsx hs2
      go_wp2_with fail
      generalize w2.heap.size = nb at *
      generalize w2.alloc (.cells (N12 a1 n1 s1 r1 t1 (.slice p1 m1 e1)) 77) = w3 at *
      refine (blanks_any _ _ _ s _ hR3 hpg.2.1 (by omega)).mono ?_
      rintro e w4 ⟨rfl, hR4, hK4⟩
      have hn4 := hK4.blk hn3 (fun e => hl2 e.symm)
      have hq4 := hK4.blk hq3 (by omega)
      have hK4w := hK3.trans hK4 (fun n e => .inl e)
      obtain ⟨⟨c0, c1, c2⟩, f0, f1, f2⟩ := hR4.cells
      by_cases hlt : skip s k' < s.size
      · have HRT : Hid (RR = .err (skip s k') 2) := by
          have h1 := HQ2.out
          rw [if_pos hlt] at h1
          exact h1.symm
        have hlt' : ((skip s k' : Nat) : Int) < (s.size : Int) := by omega
        clear HQ2
        go_wp2_with fail
        refine (fault_any _ _ _ 2 s _ hR4).mono ?_
        rintro e w5 ⟨rfl, hb5⟩
        go_wp2_with fail
        refine ⟨rfl, ?_⟩
        rw [HRT.out]
        exact ⟨rfl, kp_below (hK4w.below hb5) (by omega)⟩
      · have HRT : Hid (RR = .ok (.nd a1 n1 s1 r1 t1 ts) 0) := by
          have h1 := HQ2.out
          rw [if_neg hlt] at h1
          exact h1.symm
        have hlt' : ¬ ((skip s k' : Nat) : Int) < (s.size : Int) := by omega
        clear HQ2
        obtain ⟨⟨a0, a1', a2, a3, a4, a5, a6, a7, a8, a9, a10, a11⟩, af⟩ := cells12 hn4
        obtain ⟨⟨b0, b1, b2, b3, b4, b5, b6, b7, b8, b9, b10, b11⟩, bf⟩ := cells12 hq4
        go_wp2_with fail
        refine fin12 hq4 (Q := bodyPost _ _ _ _ _) ?_
        intro w9 hq9 hk9
        clear a0 a1' a2 a3 a4 a5 a6 a7 a8 a9 a10 a11 af b0 b1 b2 b3 b4 b5 b6 b7 b8 b9 b10 b11 bf
        obtain ⟨⟨b0, b1, b2, b3, b4, b5, b6, b7, b8, b9, b10, b11⟩, bf⟩ := cells12 hq9
        refine bodyPost_ret (v := NV a1 n1 s1 r1 t1 (.slice p1 m1 e1)) (by simp [results, Tryz.results113, go_sem, b0, b1, b2, b3, b4, b5, b6, b7, b8, b9, b10, b11]) rfl ?_
        rw [HRT.out]
        have hll := HLL.out
        have hN4 := hN3.next hK4 (fun n e => by left; have := hR1.lt; omega)
        refine ⟨_, rfl, ?_, kp_below (hK4w.trans hk9 (fun n e => by right; omega)) (by omega)⟩
        exact hN4.mono (fun n hn => hk9.block n hn.2 (by have := hn.1; omega)) (fun n hn => ⟨by have := hn.1; omega, Nat.lt_of_lt_of_le hn.2 hk9.size⟩)
  · have HX : Hid (¬ nx s 0 = 61) := h61
    have HRT : Hid (RR = .err 0 2) := by
      have h1 := HRR.out
      unfold parse at h1
      rw [if_neg h200, if_pos h61] at h1
      exact h1.symm
    clear h61 HRR
    have HCC : Hid (∀ w, Calls Tryz.prog 83 #[.string s] w fun e w' => e = .returned (.bool (!decide (nx s 0 = 61))) ∧ w' = w) := constant_any s
    go_enter Tryz.func113, Tryz.ntmps113
    go_wp2_with fail
    refine (HCC.out _).mono ?_
    rintro e w1 ⟨rfl, rfl⟩
    rw [decide_eq_false HX.out]
    go_wp2_with fail
    refine (fault_any _ 0 0 2 s _ hR0).mono ?_
    rintro e w1 ⟨rfl, hb⟩
    go_wp2_with fail
    refine ⟨rfl, ?_⟩
    rw [HRT.out]
    exact ⟨rfl, kp_below (hK0.below hb) (by omega)⟩
end Go.Proofs.YtomgjjngkffbbaaGreatDoor.fm
/- The program's Parse, for every text. Conditions: the package variables as the program's text has them; the text has at most 2^47 bytes. -/
namespace Go.Proofs.YtomgjjngkffbbaaGreatDoor.fm
open Go.RowKit
theorem catch_idle (pa pe : Nat) (w : World) :
    CallsD Tryz.prog 112 #[ptr pa, ptr pe] .returning w fun e u' w' => e = .returned (.tuple #[]) ∧ u' = .returning ∧ w' = w := by
  refine callsD_of_wpS Tryz.func112 rfl fun c₀ cs hu => ?_
  apply wpS_seq
  apply wpS_region
  simp [wpOpsS, go_sem, recoverD, hu, Tryz.ntmps112, Exit.thenS]
  refine wpS_of_wp ?_
  change Code.wp Tryz.prog _ _ { tmps := #[ptr pa, ptr pe, .nilIface, undef, .nilIface, undef, undef, undef, undef, undef, undef, undef, undef, undef], defers := [] } _
  go_wp2
  cases c₀
  simp_all [bodyPostS, results, Tryz.results112]
theorem catch_panicking (pa pe : Nat) (k : Nat) (c : Int) (w : World) (h0 : w.heap[pa]? = some (.cells #[.int .i64 0] 3 (0, 0))) (h1 : w.heap[pe]? = some (.cells #[.nilIface] 26 (0, 0))) (hne : pa ≠ pe) :
    CallsD Tryz.prog 112 #[ptr pa, ptr pe] (.panicking [{ v := flt k c, recovered := false }]) w fun e u' w' =>
      e = .returned (.tuple #[]) ∧ u' = .panicking [{ v := flt k c, recovered := true }] ∧ w'.heap[pa]? = some (.cells #[.int .i64 k] 3 (0, 0)) ∧ w'.heap[pe]? = some (.cells #[.iface 67 (.int .i64 c)] 26 (0, 0)) ∧ Kp (fun b => b = pa ∨ b = pe) w w' := by
  refine callsD_of_wpS Tryz.func112 rfl fun c₀ cs hu => ?_
  apply wpS_seq
  apply wpS_region
  simp [wpOpsS, go_sem, recoverD, hu, Tryz.ntmps112, Exit.thenS]
  obtain ⟨x0, x1⟩ := cells1 h0
  obtain ⟨y0, y1⟩ := cells1 h1
  have hta : ∀ w, (Instr.typeAssert (.iface 187 (.agg #[.int .i64 k, .int .i64 c])) 20 187 false).run Tryz.prog w = .ok (.agg #[.int .i64 k, .int .i64 c]) w := fun _ => by kernel_rfl
  refine wpS_of_wp ?_
  change Code.wp Tryz.prog _ _ { tmps := #[ptr pa, ptr pe, flt k c, undef, flt k c, undef, undef, undef, undef, undef, undef, undef, undef, undef], defers := [] } _
  have hKa := (Kp.refl (fun _ => False) w).alloc (.cells #[.int .i64 k, .int .i64 c] 187)
  have hf := blk2 (blk_new w (.cells #[.int .i64 k, .int .i64 c] 187))
  have ha0 := hKa.blk h0 id
  have ha1 := hKa.blk h1 id
  have hn0 : w.heap.size ≠ pa := by have := lt_blk h0; omega
  have hn1 : w.heap.size ≠ pe := by have := lt_blk h1; omega
  clear x0 x1 y0 y1
  go_upto_region 3 with fail
  generalize w.alloc (.cells #[.int .i64 k, .int .i64 c] 187) = wa at *
  generalize w.heap.size = fb at *
  obtain ⟨g0, g1⟩ := hf
  obtain ⟨x0, x1⟩ := cells1 ha0
  obtain ⟨y0, y1⟩ := cells1 ha1
  have hne2 : pe ≠ pa := fun e => hne e.symm
  go_region
  all_goals
    go_wp2
    refine ⟨rfl, _, rfl, _, by simp [results, Tryz.results112, go_sem], rfl, rfl, ?_, ?_, ?_⟩
    · show ((wa.setCell ⟨pa, 0, none⟩ (.int .i64 k)).setCell ⟨pe, 0, none⟩ (.iface 67 (.int .i64 c))).heap[pa]? = _
      rw [Below.heap_setCell _ _ _ _ hne, blk_set ha0]; rfl
    · show ((wa.setCell ⟨pa, 0, none⟩ (.int .i64 k)).setCell ⟨pe, 0, none⟩ (.iface 67 (.int .i64 c))).heap[pe]? = _
      rw [blk_set (by rw [Below.heap_setCell _ _ _ _ hne2]; exact ha1)]; rfl
    · exact (((hKa.mono (fun _ _ e => e.elim)).setCell (Or.inl (Or.inl rfl)) _).setCell (Or.inl (Or.inr rfl)) _).drew
/-- What the program's Parse answers. -/
def OutP (w : World) (r : Rs T) (e : Ending) (w' : World) : Prop :=
  match r with
  | .ok t _ => ∃ v, e = .returned (.tuple #[v, .int .i64 0, .nilIface]) ∧ Nd w' (Own w w') v t ∧ Below w.heap.size w w'
  | .err k c => e = .returned (.tuple #[NV 0 0 nul .z .z (.slice none 0 0), .int .i64 k, .iface 67 (.int .i64 c)]) ∧ Below w.heap.size w w'
set_option maxHeartbeats 4000000 in
theorem parse_any (s : ByteArray) (w : World) (hE : EnvF w) (hs : s.size ≤ 140737488355328) (RR : Rs T) (hRR : parse lexP s = RR) :
    Calls Tryz.prog 84 #[.string s] w (OutP w RR) := by
  have hmf : ∀ (fn : Fn) (first cap : Array Value) (w : World), (Instr.makeFunc fn first cap).run Tryz.prog w = .ok (.func fn first cap) w := fun _ _ _ _ => rfl
  have HRF : Hid (∀ w, EnvF w → Calls Tryz.prog 113 #[.string s] w (OutF w RR)) := fun w hE => readFormula_any s w hE hs RR hRR
  have hK0 := (((Kp.refl (fun _ => False) w).alloc (.cells NZ 77)).alloc (.cells #[.int .i64 0] 3)).alloc (.cells #[.nilIface] 26)
  have hE0 := hE.keep hK0 (fun n e => e.elim)
  have hb0 : (((w.alloc (.cells NZ 77)).alloc (.cells #[.int .i64 0] 3)).alloc (.cells #[.nilIface] 26)).heap[w.heap.size]? = some (.cells NZ 77 (0, 0)) := by
    rw [Below.heap_alloc _ _ _ (by simp; omega), Below.heap_alloc _ _ _ (by simp)]; exact blk_new _ _
  have hb1 : (((w.alloc (.cells NZ 77)).alloc (.cells #[.int .i64 0] 3)).alloc (.cells #[.nilIface] 26)).heap[w.heap.size + 1]? = some (.cells #[.int .i64 0] 3 (0, 0)) := by
    rw [Below.heap_alloc _ _ _ (by simp)]
    simpa using blk_new (w.alloc (.cells NZ 77)) (.cells #[.int .i64 0] 3)
  have hb2 : (((w.alloc (.cells NZ 77)).alloc (.cells #[.int .i64 0] 3)).alloc (.cells #[.nilIface] 26)).heap[w.heap.size + 1 + 1]? = some (.cells #[.nilIface] 26 (0, 0)) := by
    simpa using blk_new ((w.alloc (.cells NZ 77)).alloc (.cells #[.int .i64 0] 3)) (.cells #[.nilIface] 26)
  clear hRR
  go_enter_defers Tryz.func84, Tryz.ntmps84
  go_wp2_with fail
  refine (HRF.out _ hE0).mono ?_
  generalize ((w.alloc (.cells NZ 77)).alloc (.cells #[.int .i64 0] 3)).alloc (.cells #[.nilIface] 26) = w0 at *
  clear HRF
  intro e w1 ho
  cases RR with
  | err k c =>
    obtain ⟨rfl, hb⟩ := ho
    have hq0 := ((Kp.refl (fun _ => False) _).below hb).blk hb0 id
    have hq1 := ((Kp.refl (fun _ => False) _).below hb).blk hb1 id
    have hq2 := ((Kp.refl (fun _ => False) _).below hb).blk hb2 id
    have hKw := hK0.below hb
    go_wp2_with fail
    refine leaves_cons (f := 112) (args := #[ptr (w.heap.size + 1), ptr (w.heap.size + 1 + 1)]) (by simp) (by simp [go_sem]) ?_
    refine (catch_panicking (w.heap.size + 1) (w.heap.size + 1 + 1) k c _ hq1 hq2 (by omega)).mono ?_
    rintro e u' w2 ⟨rfl, rfl, ha, he, hk2⟩
    have hq3 := hk2.blk hq0 (by rintro (e | e) <;> omega)
    obtain ⟨x0, x1⟩ := cells1 ha
    obtain ⟨y0, y1⟩ := cells1 he
    obtain ⟨⟨b0, b1, b2, b3, b4, b5, b6, b7, b8, b9, b10, b11⟩, bf⟩ := cells12 hq3
    have hfin : Below w.heap.size w w2 := (hKw.mono (fun _ _ e => e.elim)).trans (X := fun _ => False) hk2 (fun n e => by right; rcases e with e | e <;> omega) |>.toBelow (Nat.le_refl _) (fun _ _ e => e)
    have hres : (results Tryz.f84 #[.string s, undef, ptr w.heap.size, ptr (w.heap.size + 1), ptr (w.heap.size + 1 + 1), .func (.func 112) #[] #[ptr (w.heap.size + 1), ptr (w.heap.size + 1 + 1)], .string s, undef]).run Tryz.prog w2 = .ok (.tuple #[NV 0 0 nul .z .z (.slice none 0 0), .int .i64 k, .iface 67 (.int .i64 c)]) w2 := by
      simp [results, Tryz.results84, go_sem, b0, b1, b2, b3, b4, b5, b6, b7, b8, b9, b10, b11, x0, y0]
    exact ⟨_, hres, rfl, hfin⟩
  | ok t k =>
    obtain ⟨v, rfl, hN, hb⟩ := ho
    have hq0 := ((Kp.refl (fun _ => False) _).below hb).blk hb0 id
    have hq1 := ((Kp.refl (fun _ => False) _).below hb).blk hb1 id
    have hq2 := ((Kp.refl (fun _ => False) _).below hb).blk hb2 id
    have hKw := hK0.below hb
    have hl0 := lt_blk hb2
    cases hN with
    | @mk a1 n1 s1 r1 t1 p1 m1 e1 us ts hk hl hs' =>
    have hN := Nd.mk (k := a1) (n := n1) (s := s1) (r := r1) (t := t1) hk hl hs'
    clear hk hl hs'
    obtain ⟨x0, x1⟩ := cells1 hq1
    obtain ⟨y0, y1⟩ := cells1 hq2
    obtain ⟨⟨b0, b1, b2, b3, b4, b5, b6, b7, b8, b9, b10, b11⟩, bf⟩ := cells12 hq0
    go_wp2_with fail
    clear x0 x1 y0 y1 b0 b1 b2 b3 b4 b5 b6 b7 b8 b9 b10 b11 bf
    refine fin12 hq0 (Q := fun W => bodyPostD _ _ _ _ _ ((W.setCell ⟨w.heap.size + 1, 0, none⟩ _).setCell ⟨w.heap.size + 1 + 1, 0, none⟩ _)) ?_
    intro w2 hr2 hk2
    have hq1' := hk2.blk hq1 (by omega)
    have hq2' := hk2.blk hq2 (by omega)
    have ha : ((w2.setCell ⟨w.heap.size + 1, 0, none⟩ (.int .i64 0)).setCell ⟨w.heap.size + 1 + 1, 0, none⟩ .nilIface).heap[w.heap.size + 1]? = some (.cells #[.int .i64 0] 3 (0, 0)) := by
      rw [Below.heap_setCell _ _ _ _ (by simp), blk_set hq1']; rfl
    have he : ((w2.setCell ⟨w.heap.size + 1, 0, none⟩ (.int .i64 0)).setCell ⟨w.heap.size + 1 + 1, 0, none⟩ .nilIface).heap[w.heap.size + 1 + 1]? = some (.cells #[.nilIface] 26 (0, 0)) := by
      rw [blk_set (by rw [Below.heap_setCell _ _ _ _ (by simp)]; exact hq2')]; rfl
    have hr : ((w2.setCell ⟨w.heap.size + 1, 0, none⟩ (.int .i64 0)).setCell ⟨w.heap.size + 1 + 1, 0, none⟩ .nilIface).heap[w.heap.size]? = some (.cells (N12 a1 n1 s1 r1 t1 (.slice p1 m1 e1)) 77 (0, 0)) := by
      rw [Below.heap_setCell _ _ _ _ (by simp; omega), Below.heap_setCell _ _ _ _ (by simp)]; exact hr2
    have hk3 : Kp (fun b => b = w.heap.size ∨ b = w.heap.size + 1 ∨ b = w.heap.size + 1 + 1) w1 ((w2.setCell ⟨w.heap.size + 1, 0, none⟩ (.int .i64 0)).setCell ⟨w.heap.size + 1 + 1, 0, none⟩ .nilIface) := by
      have q : Kp (fun b => b = w.heap.size ∨ b = w.heap.size + 1 ∨ b = w.heap.size + 1 + 1) w1 w2 := hk2.mono (fun _ _ e => Or.inl e)
      exact (q.setCell (p := ⟨w.heap.size + 1, 0, none⟩) (Or.inl (Or.inr (Or.inl rfl))) _).setCell (p := ⟨w.heap.size + 1 + 1, 0, none⟩) (Or.inl (Or.inr (Or.inr rfl))) _
    generalize (w2.setCell ⟨w.heap.size + 1, 0, none⟩ (.int .i64 0)).setCell ⟨w.heap.size + 1 + 1, 0, none⟩ .nilIface = w3 at *
    refine leaves_cons (f := 112) (args := #[ptr (w.heap.size + 1), ptr (w.heap.size + 1 + 1)]) (by simp) (by simp [go_sem]) ?_
    refine (catch_idle (w.heap.size + 1) (w.heap.size + 1 + 1) _).mono ?_
    rintro e u' w4 ⟨rfl, rfl, rfl⟩
    obtain ⟨x0, x1⟩ := cells1 ha
    obtain ⟨y0, y1⟩ := cells1 he
    obtain ⟨⟨b0, b1, b2, b3, b4, b5, b6, b7, b8, b9, b10, b11⟩, bf⟩ := cells12 hr
    have hsz0 := hb.size
    refine ⟨.tuple #[NV a1 n1 s1 r1 t1 (.slice p1 m1 e1), .int .i64 0, .nilIface], by simp [results, Tryz.results84, go_sem, b0, b1, b2, b3, b4, b5, b6, b7, b8, b9, b10, b11, x0, y0], _, rfl, ?_, ?_⟩
    · exact (hN.mono (fun n hn => hk3.block n hn.2 (by have := hn.1; rintro (e | e | e) <;> omega)) (fun n hn => ⟨by have := hn.1; omega, Nat.lt_of_lt_of_le hn.2 hk3.size⟩))
    · exact ((hKw.mono (fun _ _ e => e.elim)).trans (X := fun _ => False) hk3 (fun n e => by right; rcases e with e | e | e <;> omega)).toBelow (Nat.le_refl _) (fun _ _ e => e)
end Go.Proofs.YtomgjjngkffbbaaGreatDoor.fm
