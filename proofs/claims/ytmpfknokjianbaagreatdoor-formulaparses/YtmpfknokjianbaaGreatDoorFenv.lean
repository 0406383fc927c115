/- The law FormulaParses: the reference and the program say the same of any text. Conditions: the package variables as the program's text has them; the text has at most 2^47 bytes. -/
import Derived.Test.YtmpfknokjianbaaGreatDoorRz
import Derived.Test.YtmpfknokjianbaaGreatDoorRp
import Derived.Test.YtmpfknokjianbaaGreatDoorSm2
import Derived.Test.YtmpfknokjianbaaGreatDoorAs
import Derived.Test.YtmpfknokjianbaaGreatDoorTie
import Derived.Test.YtmpfknokjianbaaGreatDoorCards
import Derived.ProofKit
import Derived.LaidMore
import Derived.OpenShut
import Derived.Stop.Joined
import Derived.SevenTiedAt
import Derived.Lib.SmallJoins
import Derived.Stop.LaidErr
import Derived.Lib.LaidTab
namespace Go.Proofs.YtmpfknokjianbaaGreatDoor.fm
open Go.RowKit
theorem rparse_any (s : ByteArray) (w : World) (RR : Rs T) (hRR : parse lexP s = RR) : Calls Tryz.prog 6 #[.string s] w (OutQ w RR) := by
  unfold parse at hRR
  by_cases h1 : 200 < s.size
  · rw [if_pos h1] at hRR
    subst hRR
    exact rparse_long s w h1
  rw [if_neg h1] at hRR
  by_cases h2 : nx s 0 ≠ 61
  · rw [if_pos h2] at hRR
    subst hRR
    exact rparse_no s w (by omega) h2
  rw [if_neg h2] at hRR
  subst hRR
  have h3 : nx s 0 = 61 := Classical.byContradiction h2
  have hz := nx_lt (s := s) (k := 0) (by omega)
  exact rparse_go s w (by omega) hz h3 _ fun pb w1 hP => (ref_to (s := s) (by omega) s.size pb 1 0 0 w1 hP hz (by omega) (by omega)).2 1 (Nat.le_refl _) (by omega)
theorem mean_bd (n : Nat) (t : ByteArray) (u : T) (h : lexP.mean t = some u) : Bd n u := by
  have h : meanOf t = some u := h
  unfold meanOf at h
  split at h
  · cases h; exact .leaf
  · split at h
    · cases h; exact .leaf
    · split at h
      · cases h; exact .leaf
      · cases h
theorem Bd.mono {n m : Nat} {t : T} (h : Bd n t) (hn : n ≤ m) : Bd m t := by
  induction h with
  | mk hl hs ih => exact .mk (Nat.le_trans hl hn) ih
def kOf : Rs T → Nat
  | .ok _ _ => 0
  | .err k _ => k
def cOf : Rs T → Int
  | .ok _ _ => 0
  | .err _ c => c
def eOf : Rs T → Value
  | .ok _ _ => .nilIface
  | .err _ c => .iface 53 (.int .i64 c)
def trOf : Rs T → T
  | .ok t _ => t
  | .err _ _ => .nd 0 0 nul .z .z []
theorem OutQ.open {w : World} {r : Rs T} {e : Ending} {w' : World} (h : OutQ w r e w') :
    ∃ (a n : Int) (s1 : ByteArray) (r1 t1 : Rf) (p : Option Addr) (m c : Nat), e = .returned (.tuple #[NV a n s1 r1 t1 (.slice p m c), .int .i64 (kOf r : Nat), .int .i64 (cOf r)]) ∧ Nd w' (Own w w') (NV a n s1 r1 t1 (.slice p m c)) (trOf r) ∧ Below w.heap.size w w' := by
  cases r with
  | ok t k =>
    obtain ⟨v, h1, h2, h3⟩ := h
    cases h2 with
    | mk hk hl hs => exact ⟨_, _, _, _, _, _, _, _, h1, .mk hk hl hs, h3⟩
  | err k c => exact ⟨0, 0, nul, .z, .z, none, 0, 0, h.1, .leaf, h.2⟩
theorem OutP.open {w : World} {r : Rs T} {e : Ending} {w' : World} (h : OutP w r e w') :
    ∃ (a n : Int) (s1 : ByteArray) (r1 t1 : Rf) (p : Option Addr) (m c : Nat), e = .returned (.tuple #[NV a n s1 r1 t1 (.slice p m c), .int .i64 (kOf r : Nat), eOf r]) ∧ Nd w' (Own w w') (NV a n s1 r1 t1 (.slice p m c)) (trOf r) ∧ Below w.heap.size w w' := by
  cases r with
  | ok t k =>
    obtain ⟨v, h1, h2, h3⟩ := h
    cases h2 with
    | mk hk hl hs => exact ⟨_, _, _, _, _, _, _, _, h1, .mk hk hl hs, h3⟩
  | err k c => exact ⟨0, 0, nul, .z, .z, none, 0, 0, h.1, .leaf, h.2⟩
theorem told_same (r : Rs T) (w : World) (hT : ErrTy w) : Calls Tryz.prog 8 #[eOf r, .int .i64 (cOf r)] w fun e w' => e = .returned (.bool true) ∧ Below w.heap.size w w' := by
  cases r with
  | ok t k => exact same_nil 0 w
  | err k c =>
    refine (same_errno c c w hT).mono ?_
    rintro e w' ⟨rfl, hb⟩
    exact ⟨by simp, hb⟩
theorem tr_bd (s : ByteArray) (hs : s.size ≤ 200 ∨ 200 < s.size) : Bd 200 (trOf (parse lexP s)) := by
  rcases hs with hs | hs
  · cases h : parse lexP s with
    | ok t k => exact (parse_bd lexP s (fun t u hu => mean_bd s.size t u hu) h).mono hs
    | err k c => exact .leaf
  · have : parse lexP s = .err 0 4 := by unfold parse; rw [if_pos hs]
    rw [this]
    exact .leaf
set_option maxRecDepth 100000 in
set_option maxHeartbeats 8000000 in
theorem formulaParses_law (s : ByteArray) (w : World) (hE : EnvF w) (hT : ErrTy w) (hs : s.size ≤ 140737488355328) :
    Calls Tryz.prog 3 #[.string s] w fun e w' => e = .returned (.bool true) ∧ Below w.heap.size w w' := by
  have hbd := tr_bd s (by omega)
  obtain ⟨RR, hRR⟩ : ∃ RR, parse lexP s = RR := ⟨_, rfl⟩
  have HQ : Hid (∀ w, Calls Tryz.prog 6 #[.string s] w (OutQ w RR)) := fun w => rparse_any s w RR hRR
  have HP : Hid (∀ w, EnvF w → Calls Tryz.prog 7 #[.string s] w (OutP w RR)) := fun w hE => parse_any s w hE hs RR hRR
  have HC : Hid (∀ w, Calls Tryz.prog 10 #[.string s] w fun e w' => e = .returned (.bool (!decide (nx s 0 = 61))) ∧ w' = w) := fun w => constant_any s w
  have HS : Hid (∀ w, ErrTy w → Calls Tryz.prog 8 #[eOf RR, .int .i64 (cOf RR)] w fun e w' => e = .returned (.bool true) ∧ Below w.heap.size w w') := fun w h => told_same RR w h
  rw [hRR] at hbd
  have HBD : Hid (Bd 200 (trOf RR)) := hbd
  have hsz := hE.env.size
  clear hbd hRR
  go_enter Tryz.func3, Tryz.ntmps3
  go_wp2_with fail
  go_at_call 6
  refine (HQ.out _).mono ?_
  intro e w1 ho
  obtain ⟨a1, n1, s1, r1, t1, p1, m1, e1, rfl, hN1, hb1⟩ := ho.open
  clear ho HQ
  have hb2 : Below w.heap.size w (w1.alloc (.cells (N12 a1 n1 s1 r1 t1 (.slice p1 m1 e1)) 28)) := hb1.alloc hb1.size _
  have hn2 := blk_new w1 (.cells (N12 a1 n1 s1 r1 t1 (.slice p1 m1 e1)) 28)
  have hN2 : Nd (w1.alloc (.cells (N12 a1 n1 s1 r1 t1 (.slice p1 m1 e1)) 28)) (fun b => b < w1.heap.size) (NV a1 n1 s1 r1 t1 (.slice p1 m1 e1)) (trOf RR) := hN1.mono (fun n hn => Below.heap_alloc _ _ _ hn.2) (fun n hn => hn.2)
  have HN1 : Hid (w1.heap.size < (w1.alloc (.cells (N12 a1 n1 s1 r1 t1 (.slice p1 m1 e1)) 28)).heap.size) := by unfold Hid; simp
  go_wp2_with fail
  go_at_call 7
  generalize w1.alloc (.cells (N12 a1 n1 s1 r1 t1 (.slice p1 m1 e1)) 28) = w2 at *
  generalize w1.heap.size = nb at *
  refine (HP.out _ (hE.below hb2 (by omega))).mono ?_
  intro e w3 ho
  obtain ⟨a2, n2, s2, r2, t2, p2, m2, e2, rfl, hM3, hb3⟩ := ho.open
  clear ho HP
  have hb4 : Below w2.heap.size w2 (w3.alloc (.cells (N12 a2 n2 s2 r2 t2 (.slice p2 m2 e2)) 28)) := hb3.alloc hb3.size _
  have hm4 := blk_new w3 (.cells (N12 a2 n2 s2 r2 t2 (.slice p2 m2 e2)) 28)
  have hn4 : (w3.alloc (.cells (N12 a2 n2 s2 r2 t2 (.slice p2 m2 e2)) 28)).heap[nb]? = some (.cells (N12 a1 n1 s1 r1 t1 (.slice p1 m1 e1)) 28 (0, 0)) := by rw [hb4.block _ (lt_blk hn2)]; exact hn2
  have hN4 : Nd (w3.alloc (.cells (N12 a2 n2 s2 r2 t2 (.slice p2 m2 e2)) 28)) (fun b => b < (w3.alloc (.cells (N12 a2 n2 s2 r2 t2 (.slice p2 m2 e2)) 28)).heap.size) (NV a1 n1 s1 r1 t1 (.slice p1 m1 e1)) (trOf RR) := hN2.mono (fun n hn => hb4.block n (Nat.lt_trans hn HN1.out)) (fun n hn => Nat.lt_of_lt_of_le (Nat.lt_trans hn HN1.out) hb4.size)
  have hM4 : Nd (w3.alloc (.cells (N12 a2 n2 s2 r2 t2 (.slice p2 m2 e2)) 28)) (fun b => b < (w3.alloc (.cells (N12 a2 n2 s2 r2 t2 (.slice p2 m2 e2)) 28)).heap.size) (NV a2 n2 s2 r2 t2 (.slice p2 m2 e2)) (trOf RR) := hM3.mono (fun n hn => Below.heap_alloc _ _ _ hn.2) (fun n hn => by have := hn.2; simp; omega)
  have hB4 := hb2.trans (hb4.mono hb2.size)
  go_wp2_with fail
  go_at_call 8
  generalize w3.alloc (.cells (N12 a2 n2 s2 r2 t2 (.slice p2 m2 e2)) 28) = w4 at *
  generalize w3.heap.size = mb at *
  clear hb3 hM3 hb1 hN1
  refine (HS.out _ (hT.below hB4 (by omega))).mono ?_
  rintro e w5 ⟨rfl, hb5⟩
  have hn5 : w5.heap[nb]? = some (.cells (N12 a1 n1 s1 r1 t1 (.slice p1 m1 e1)) 28 (0, 0)) := by rw [hb5.block _ (lt_blk hn4)]; exact hn4
  have hm5 : w5.heap[mb]? = some (.cells (N12 a2 n2 s2 r2 t2 (.slice p2 m2 e2)) 28 (0, 0)) := by rw [hb5.block _ (lt_blk hm4)]; exact hm4
  have hB5 := hB4.trans (hb5.mono hB4.size)
  clear hb2 hb4 hn2 hN2 HS
  obtain ⟨⟨g0, g1, g2, g3, g4, g5, g6, g7, g8, g9, g10, g11⟩, gf⟩ := cells12 hn5
  obtain ⟨⟨d0, d1, d2, d3, d4, d5, d6, d7, d8, d9, d10, d11⟩, df⟩ := cells12 hm5
  go_wp2_with fail
  go_at_call 9
  refine (same_any hN4 HBD.out _ hM4 _ hb5).mono ?_
  rintro e w6 ⟨rfl, hb6⟩
  have hB6 := hB5.trans (hb6.mono hB5.size)
  clear g0 g1 g2 g3 g4 g5 g6 g7 g8 g9 g10 g11 gf d0 d1 d2 d3 d4 d5 d6 d7 d8 d9 d10 d11 df
  go_wp2_with fail
  go_at_call 10
  refine (HC.out _).mono ?_
  rintro e w7 ⟨rfl, rfl⟩
  clear HC
  generalize kOf RR = kk
  by_cases hz : 0 < s.size
  · have he : s.toList.isEmpty = false := by
      rw [ByteArray.toList_eq]
      cases hl : s.data.toList with
      | nil =>
        exfalso
        have : s.size = 0 := by
          show s.data.size = 0
          rw [← Array.length_toList, hl]
          rfl
        omega
      | cons a r => rfl
    have hlI : (0 : Int) < (s.size : Int) := by omega
    by_cases h61 : s[0].toNat = 61
    · have hc : (((s[0].toNat : Nat) : Int) != 61) = false := by rw [bne_eq_false_iff_eq]; omega
      have hd : decide (nx s 0 = 61) = true := decide_eq_true (by rw [nx_in hz]; exact h61)
      rw [hd]
      clear h61 hd
      go_wp2_with fail
      go_ret
      exact ⟨rfl, hB6⟩
    · have hc : (((s[0].toNat : Nat) : Int) != 61) = true := by rw [bne_iff_ne]; omega
      have hd : decide (nx s 0 = 61) = false := decide_eq_false (by rw [nx_in hz]; exact h61)
      rw [hd]
      clear h61 hd
      go_wp2_with fail
      go_ret
      exact ⟨rfl, hB6⟩
  · have he : s.toList.isEmpty = true := by
      rw [ByteArray.toList_eq]
      have : s.data.toList = [] := List.eq_nil_of_length_eq_zero (by rw [Array.length_toList]; show s.size = 0; omega)
      rw [this]
      rfl
    have hd : decide (nx s 0 = 61) = false := decide_eq_false (by rw [nx_out hz]; omega)
    rw [hd]
    clear hd
    go_wp2_with fail
    go_ret
    exact ⟨rfl, hB6⟩
end Go.Proofs.YtmpfknokjianbaaGreatDoor.fm
/- What the listed package variables read as gives what the walks ask of them. Nothing is walked here. -/
namespace Go.Proofs.YtmpfknokjianbaaGreatDoor
open Go.ChangeShapes Go.WideShapes Go.ChangeAt Go.RowKit Go.Joins
theorem gSynT : (Tryz.prog.globals[9]?).map (·.type) = some 32 := by kernel_rfl
theorem gRanT : (Tryz.prog.globals[10]?).map (·.type) = some 32 := by kernel_rfl
theorem gPowT : (Tryz.prog.globals[4]?).map (·.type) = some 192 := by kernel_rfl
theorem gBadT : (Tryz.prog.globals[2]?).map (·.type) = some 181 := by kernel_rfl
theorem cells112 : Tryz.prog.cellsOf 221 = 1 := by kernel_rfl
theorem cells9 : Tryz.prog.cellsOf 9 = 1 := by kernel_rfl
theorem cells105 : Tryz.prog.cellsOf 192 = 20 := by kernel_rfl
theorem cells51 : Tryz.prog.cellsOf 181 = 6 := by kernel_rfl
theorem star : "*" ++ "errors.errorString" = "*errors.errorString" := by decide
theorem row110 (u : TypeId) (h : Tryz.prog.typeName? 3 u = some "*errors.errorString") : u = 219 :=
  typeName_ptr_named (nm := "errors.errorString") (by rw [star]; kernel_rfl) (by kernel_rfl) (by decide) u (by rw [star]; exact h)
theorem bytes_eq {s t : ByteArray} (h : s.data.toList = t.data.toList) : s = t := by
  obtain ⟨⟨l⟩⟩ := s
  obtain ⟨⟨m⟩⟩ := t
  simp at h
  rw [h]
theorem six {α : Type} {l : List α} (h : l.length = 6) : ∃ a b c d e f, l = [a, b, c, d, e, f] := by
  match l, h with
  | [a, b, c, d, e, f], _ => exact ⟨a, b, c, d, e, f, rfl⟩
theorem own : ownKnob Tryz.prog.godebug = none := by kernel_rfl
theorem gOpsT : (Tryz.prog.globals[1]?).map (·.type) = some 121 := by kernel_rfl
theorem cells3 : Tryz.prog.cellsOf 3 = 1 := by kernel_rfl
theorem cells120 : Tryz.prog.cellsOf 120 = 2 := by kernel_rfl
theorem cells121 : Tryz.prog.cellsOf 121 = 24 := by kernel_rfl
theorem list2 {α : Type} {l : List α} (h : l.length = 2) : ∃ a b, l = [a, b] := by
  match l, h with
  | [a, b], _ => exact ⟨a, b, rfl⟩
theorem list12 {α : Type} {l : List α} (h : l.length = 12) : ∃ x0 x1 x2 x3 x4 x5 x6 x7 x8 x9 x10 x11, l = [x0, x1, x2, x3, x4, x5, x6, x7, x8, x9, x10, x11] := by
  match l, h with
  | [x0, x1, x2, x3, x4, x5, x6, x7, x8, x9, x10, x11], _ => exact ⟨x0, x1, x2, x3, x4, x5, x6, x7, x8, x9, x10, x11, rfl⟩
theorem list24 {α : Type} {l : List α} (h : l.length = 24) : ∃ c0 c1 c2 c3 c4 c5 c6 c7 c8 c9 c10 c11 c12 c13 c14 c15 c16 c17 c18 c19 c20 c21 c22 c23, l = [c0, c1, c2, c3, c4, c5, c6, c7, c8, c9, c10, c11, c12, c13, c14, c15, c16, c17, c18, c19, c20, c21, c22, c23] := by
  match l, h with
  | [c0, c1, c2, c3, c4, c5, c6, c7, c8, c9, c10, c11, c12, c13, c14, c15, c16, c17, c18, c19, c20, c21, c22, c23], _ => exact ⟨c0, c1, c2, c3, c4, c5, c6, c7, c8, c9, c10, c11, c12, c13, c14, c15, c16, c17, c18, c19, c20, c21, c22, c23, rfl⟩
set_option maxRecDepth 100000 in
theorem op_trod {H : Type} {enc : TypeId × Value → H} {W : World} {base : Nat} {spare : Nat → Bool} {held : Bool} {fuel : Nat} {cs : List Value} {x : DataW H × List MemPlace} (h : DataW.trod enc Tryz.prog W base spare held fuel 120 cs = some x) :
    ∃ (s : ByteArray) (n : Int), cs = [.string s, .int .i64 n] ∧ x.1 = .agg [.lit (.string s.data.toList), .lit (.int .i64 n)] := by
  obtain ⟨y0, y1, n, rfl, hl, h0, h1⟩ := trod_struct2 Tryz.underlying120 h
  obtain ⟨a, b, rfl⟩ := list2 (hl.trans cells120)
  simp only [cells3, cells9, List.drop_zero, List.drop_succ_cons, List.take_succ_cons, List.take_zero] at h0 h1
  obtain ⟨s, e0, rfl, w0⟩ := DataW.trod_string Tryz.underlying9 h0
  obtain ⟨r, e1, rfl, w1⟩ := DataW.trod_int Tryz.underlying3 h1
  simp at e0 e1
  subst e0 e1
  exact ⟨s, r, rfl, rfl⟩
set_option maxRecDepth 100000 in
set_option maxHeartbeats 2000000 in
theorem ops_of {W : World} {r : List (String × DataW Unit)} (h : laidMet Tryz.prog (("sccsettle/formula.operators", Rows.laid_sccsettle_formula_operators) :: r) W) :
    W.var? Tryz.prog "sccsettle/formula.operators" = some fm.opTab := by
  obtain ⟨ps, ⟨g, t, c, fuel, p, q, hg, ht, hv, hd, _, _⟩, _, _⟩ := h
  obtain rfl := Option.some.inj (fm.gOps.symm.trans hg)
  obtain rfl := Option.some.inj (gOpsT.symm.trans ht)
  obtain ⟨xs, m, rfl, hx, hlen, hn, hel⟩ := DataW.trod_array Tryz.underlying121 hd
  rw [cells121] at hlen
  rw [cells120] at hel
  obtain ⟨l⟩ := c
  simp only [Prod.mk.injEq, Rows.laid_sccsettle_formula_operators, DataW.agg.injEq] at hx
  obtain ⟨x0, x1, x2, x3, x4, x5, x6, x7, x8, x9, x10, x11, rfl⟩ := list12 hn
  obtain ⟨c0, c1, c2, c3, c4, c5, c6, c7, c8, c9, c10, c11, c12, c13, c14, c15, c16, c17, c18, c19, c20, c21, c22, c23, rfl⟩ := list24 (show l.length = 24 from hlen)
  obtain ⟨s0, n0, e0, f0⟩ := op_trod (show DataW.trod _ Tryz.prog W 0 _ _ m 120 _ = some x0 from hel 0 (by decide))
  obtain ⟨s1, n1, e1, f1⟩ := op_trod (show DataW.trod _ Tryz.prog W 0 _ _ m 120 _ = some x1 from hel 1 (by decide))
  obtain ⟨s2, n2, e2, f2⟩ := op_trod (show DataW.trod _ Tryz.prog W 0 _ _ m 120 _ = some x2 from hel 2 (by decide))
  obtain ⟨s3, n3, e3, f3⟩ := op_trod (show DataW.trod _ Tryz.prog W 0 _ _ m 120 _ = some x3 from hel 3 (by decide))
  obtain ⟨s4, n4, e4, f4⟩ := op_trod (show DataW.trod _ Tryz.prog W 0 _ _ m 120 _ = some x4 from hel 4 (by decide))
  obtain ⟨s5, n5, e5, f5⟩ := op_trod (show DataW.trod _ Tryz.prog W 0 _ _ m 120 _ = some x5 from hel 5 (by decide))
  obtain ⟨s6, n6, e6, f6⟩ := op_trod (show DataW.trod _ Tryz.prog W 0 _ _ m 120 _ = some x6 from hel 6 (by decide))
  obtain ⟨s7, n7, e7, f7⟩ := op_trod (show DataW.trod _ Tryz.prog W 0 _ _ m 120 _ = some x7 from hel 7 (by decide))
  obtain ⟨s8, n8, e8, f8⟩ := op_trod (show DataW.trod _ Tryz.prog W 0 _ _ m 120 _ = some x8 from hel 8 (by decide))
  obtain ⟨s9, n9, e9, f9⟩ := op_trod (show DataW.trod _ Tryz.prog W 0 _ _ m 120 _ = some x9 from hel 9 (by decide))
  obtain ⟨s10, n10, e10, f10⟩ := op_trod (show DataW.trod _ Tryz.prog W 0 _ _ m 120 _ = some x10 from hel 10 (by decide))
  obtain ⟨s11, n11, e11, f11⟩ := op_trod (show DataW.trod _ Tryz.prog W 0 _ _ m 120 _ = some x11 from hel 11 (by decide))
  simp at e0 e1 e2 e3 e4 e5 e6 e7 e8 e9 e10 e11
  obtain ⟨rfl, rfl⟩ := e0
  obtain ⟨rfl, rfl⟩ := e1
  obtain ⟨rfl, rfl⟩ := e2
  obtain ⟨rfl, rfl⟩ := e3
  obtain ⟨rfl, rfl⟩ := e4
  obtain ⟨rfl, rfl⟩ := e5
  obtain ⟨rfl, rfl⟩ := e6
  obtain ⟨rfl, rfl⟩ := e7
  obtain ⟨rfl, rfl⟩ := e8
  obtain ⟨rfl, rfl⟩ := e9
  obtain ⟨rfl, rfl⟩ := e10
  obtain ⟨rfl, rfl⟩ := e11
  simp only [List.map_cons, List.map_nil, f0, f1, f2, f3, f4, f5, f6, f7, f8, f9, f10, f11, List.cons.injEq, DataW.agg.injEq, DataW.lit.injEq, Lit.string.injEq, Lit.int.injEq, and_true, true_and] at hx
  obtain ⟨⟨⟨g0, i0⟩, ⟨g1, i1⟩, ⟨g2, i2⟩, ⟨g3, i3⟩, ⟨g4, i4⟩, ⟨g5, i5⟩, ⟨g6, i6⟩, ⟨g7, i7⟩, ⟨g8, i8⟩, ⟨g9, i9⟩, ⟨g10, i10⟩, ⟨g11, i11⟩⟩, _⟩ := hx
  subst i0
  subst i1
  subst i2
  subst i3
  subst i4
  subst i5
  subst i6
  subst i7
  subst i8
  subst i9
  subst i10
  subst i11
  rw [hv, bytes_eq (s := s0) (t := ⟨#[]⟩) g0.symm, bytes_eq (s := s1) (t := ⟨#[61]⟩) g1.symm, bytes_eq (s := s2) (t := ⟨#[60, 62]⟩) g2.symm, bytes_eq (s := s3) (t := ⟨#[60]⟩) g3.symm, bytes_eq (s := s4) (t := ⟨#[60, 61]⟩) g4.symm, bytes_eq (s := s5) (t := ⟨#[62]⟩) g5.symm, bytes_eq (s := s6) (t := ⟨#[62, 61]⟩) g6.symm, bytes_eq (s := s7) (t := ⟨#[38]⟩) g7.symm, bytes_eq (s := s8) (t := ⟨#[43]⟩) g8.symm, bytes_eq (s := s9) (t := ⟨#[45]⟩) g9.symm, bytes_eq (s := s10) (t := ⟨#[42]⟩) g10.symm, bytes_eq (s := s11) (t := ⟨#[47]⟩) g11.symm]
  rfl
set_option maxRecDepth 100000 in
theorem bads_of {W : World} {r : List (String × DataW Unit)} (h : laidMet Tryz.prog (("sccsettle/value.badTexts", Rows.laid_sccsettle_value_badTexts) :: r) W) :
    W.var? Tryz.prog "sccsettle/value.badTexts" = some #[.string bt0, .string bt1, .string bt2, .string bt3, .string bt4, .string bt5] := by
  obtain ⟨ps, ⟨g, t, c, fuel, p, q, hg, ht, hv, hd, _, _⟩, _, _⟩ := h
  obtain rfl := Option.some.inj (gBad.symm.trans hg)
  obtain rfl := Option.some.inj (gBadT.symm.trans ht)
  obtain ⟨xs, m, rfl, hx, hlen, hn, hel⟩ := DataW.trod_array Tryz.underlying181 hd
  rw [cells51] at hlen
  rw [cells9] at hel
  obtain ⟨l⟩ := c
  simp only [Prod.mk.injEq, Rows.laid_sccsettle_value_badTexts, DataW.agg.injEq] at hx
  obtain ⟨x0, x1, x2, x3, x4, x5, rfl⟩ := six hn
  obtain ⟨c0, c1, c2, c3, c4, c5, rfl⟩ := six (show l.length = 6 from hlen)
  obtain ⟨s0, e0, f0, _⟩ := DataW.trod_string Tryz.underlying9 (show DataW.trod _ Tryz.prog W 0 _ _ m 9 _ = some x0 from hel 0 (by decide))
  obtain ⟨s1, e1, f1, _⟩ := DataW.trod_string Tryz.underlying9 (show DataW.trod _ Tryz.prog W 0 _ _ m 9 _ = some x1 from hel 1 (by decide))
  obtain ⟨s2, e2, f2, _⟩ := DataW.trod_string Tryz.underlying9 (show DataW.trod _ Tryz.prog W 0 _ _ m 9 _ = some x2 from hel 2 (by decide))
  obtain ⟨s3, e3, f3, _⟩ := DataW.trod_string Tryz.underlying9 (show DataW.trod _ Tryz.prog W 0 _ _ m 9 _ = some x3 from hel 3 (by decide))
  obtain ⟨s4, e4, f4, _⟩ := DataW.trod_string Tryz.underlying9 (show DataW.trod _ Tryz.prog W 0 _ _ m 9 _ = some x4 from hel 4 (by decide))
  obtain ⟨s5, e5, f5, _⟩ := DataW.trod_string Tryz.underlying9 (show DataW.trod _ Tryz.prog W 0 _ _ m 9 _ = some x5 from hel 5 (by decide))
  simp at e0 e1 e2 e3 e4 e5
  subst e0 e1 e2 e3 e4 e5
  simp only [List.map_cons, List.map_nil, f0, f1, f2, f3, f4, f5, List.cons.injEq, DataW.lit.injEq, Lit.string.injEq, and_true] at hx
  obtain ⟨⟨g0, g1, g2, g3, g4, g5⟩, _⟩ := hx
  rw [hv, bytes_eq (s := s0) (t := bt0) g0.symm, bytes_eq (s := s1) (t := bt1) g1.symm, bytes_eq (s := s2) (t := bt2) g2.symm, bytes_eq (s := s3) (t := bt3) g3.symm, bytes_eq (s := s4) (t := bt4) g4.symm, bytes_eq (s := s5) (t := bt5) g5.symm]
theorem size_of_var {W : World} {n : String} {g : Nat} {c : Array Value} (hg : Tryz.prog.globalNamed n = some g) (h : W.var? Tryz.prog n = some c) : g < W.heap.size := by
  unfold World.var? at h
  rw [hg] at h
  simp only [Option.bind_some] at h
  by_cases hh : g < W.heap.size
  · exact hh
  · rw [Array.getElem?_eq_none (by omega)] at h
    cases h
set_option maxRecDepth 100000 in
theorem env_of_rest {W : World} (h : laidMet Tryz.prog [("math/bits.deBruijn32tab", Rows.laid_math_bits_deBruijn32tab), ("math/bits.deBruijn64tab", Rows.laid_math_bits_deBruijn64tab), ("internal/strconv.uint64pow10", Rows.laid_internal_strconv_uint64pow10), ("strconv.ErrRange", Rows.laid_strconv_ErrRange), ("strconv.ErrSyntax", Rows.laid_strconv_ErrSyntax), ("sccsettle/value.badTexts", Rows.laid_sccsettle_value_badTexts), ("sccsettle/formula.operators", Rows.laid_sccsettle_formula_operators)] W) : fm.EnvF W := by
  have ht := Lib.tabIs_of_head (zs := Lib.pow10Tab) (k := .u64) gPow gPowT Tryz.underlying192 Tryz.underlying153 (by kernel_rfl) cells105 (show laidMet Tryz.prog (("internal/strconv.uint64pow10", Lib.tabData .u64 Lib.pow10Tab) :: _) W from h.tail.tail)
  obtain ⟨a, s, hr, -, -, -⟩ := laid_sentinel (show laidMet Tryz.prog (("strconv.ErrRange", .iface "*errors.errorString" (.ptr (.agg [.lit (.string _)]))) :: _) W from h.tail.tail.tail) gRan gRanT Tryz.underlying32 row110 Tryz.underlying219 Tryz.underlying221 rfl rfl Tryz.underlying9 cells112 cells9
  obtain ⟨a2, s2, hs, -, -, -⟩ := laid_sentinel (show laidMet Tryz.prog (("strconv.ErrSyntax", .iface "*errors.errorString" (.ptr (.agg [.lit (.string _)]))) :: _) W from h.tail.tail.tail.tail) gSyn gSynT Tryz.underlying32 row110 Tryz.underlying219 Tryz.underlying221 rfl rfl Tryz.underlying9 cells112 cells9
  exact ⟨⟨size_of_var gRan hr, ht, ⟨_, _, hs⟩, ⟨_, _, hr⟩, bads_of h.tail.tail.tail.tail.tail⟩, ops_of h.tail.tail.tail.tail.tail.tail⟩
theorem gErr : Tryz.prog.globalNamed "errors.errorType" = some 0 := by kernel_rfl
theorem rtErr : (Tryz.prog.cutTypes.find? (·.1 == "internal/reflectlite.rtype")).map (·.2) = some 132 := by kernel_rfl
theorem oneErr : ((List.range 249).filter fun t => Tryz.prog.rowNamed t [101, 114, 114, 111, 114]) = [32] := by kernel_rfl
theorem sizeErr : Tryz.prog.types.size = 249 := by kernel_rfl
theorem err_of_handle {W : World} (h : handlesMet Tryz.prog [("errors.errorType", Rows.laid_errors_errorType)] W) : ErrTy W := by
  obtain ⟨name, u, ty, e1, e2, e3, e4, e5⟩ := h _ (List.mem_singleton.2 rfl)
  have en : name = [101, 114, 114, 111, 114] := (Option.some.inj e1).symm
  subst en
  obtain rfl := Option.some.inj (rtErr.symm.trans e2)
  have hm : ty ∈ (List.range 249).filter fun t => Tryz.prog.rowNamed t [101, 114, 114, 111, 114] := List.mem_filter.2 ⟨List.mem_range.2 (by rw [← sizeErr]; exact e3), e4⟩
  rw [oneErr] at hm
  obtain rfl := List.mem_singleton.1 hm
  have hh : typeHandle Tryz.prog 32 = .pointer (some ⟨11, 32, none⟩) := by kernel_rfl
  rw [hh] at e5
  exact ⟨size_of_var gErr e5, by simpa using World.var?_cell gErr e5 0⟩
theorem parses_env {W : World} (h : laidMetH Tryz.prog Rows.formulaParsesRow.laid W) : fm.EnvF W ∧ ErrTy W := by
  have h' : laidMet Tryz.prog [("math/bits.deBruijn32tab", Rows.laid_math_bits_deBruijn32tab), ("math/bits.deBruijn64tab", Rows.laid_math_bits_deBruijn64tab), ("internal/strconv.uint64pow10", Rows.laid_internal_strconv_uint64pow10), ("strconv.ErrRange", Rows.laid_strconv_ErrRange), ("strconv.ErrSyntax", Rows.laid_strconv_ErrSyntax), ("sccsettle/value.badTexts", Rows.laid_sccsettle_value_badTexts), ("sccsettle/formula.operators", Rows.laid_sccsettle_formula_operators)] W ∧ handlesMet Tryz.prog [("errors.errorType", Rows.laid_errors_errorType)] W := h
  exact ⟨env_of_rest h'.1, err_of_handle h'.2⟩
end Go.Proofs.YtmpfknokjianbaaGreatDoor
