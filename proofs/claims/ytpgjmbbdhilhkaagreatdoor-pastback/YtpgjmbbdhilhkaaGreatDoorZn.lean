/- Package graph: a text as a formula; package past: one text is set. Conditions: as each theorem says. -/
import Derived.Test.YtpgjmbbdhilhkaaGreatDoorZm
import Derived.Test.YtpgjmbbdhilhkaaGreatDoorFz
namespace Go.Proofs.YtpgjmbbdhilhkaaGreatDoor.ps
open Go.RowKit
open adr (C)
/-- What the package variables hold. -/
structure EnvP (w : World) : Prop where
  size : 7 < w.heap.size
  tab : Lib.TabIs Tryz.prog w "internal/strconv.uint64pow10" .u64 Lib.pow10Tab
  syn : ∃ (tp : TypeId) (p : Value), w.var? Tryz.prog "strconv.ErrSyntax" = some #[.iface tp p]
  ran : ∃ (tp : TypeId) (p : Value), w.var? Tryz.prog "strconv.ErrRange" = some #[.iface tp p]
  bads : w.var? Tryz.prog "sccsettle/value.badTexts" = some #[.string bt0, .string bt1, .string bt2, .string bt3, .string bt4, .string bt5]
  ops : w.var? Tryz.prog "sccsettle/formula.operators" = some fm.opTab
theorem EnvP.below {w w' : World} {B : Nat} (h : EnvP w) (hb : Below B w w') (hB : 7 < B) : EnvP w' :=
  ⟨Nat.lt_of_lt_of_le h.size hb.size, var?_below hb gPow (by omega) h.tab,
    h.syn.elim fun tp e => e.elim fun p e => ⟨tp, p, var?_below hb gSyn (by omega) e⟩,
    h.ran.elim fun tp e => e.elim fun p e => ⟨tp, p, var?_below hb gRan (by omega) e⟩,
    var?_below hb gBad (by omega) h.bads, var?_below hb fm.gOps (by omega) h.ops⟩
theorem EnvP.full {w : World} (h : EnvP w) (hz : 10 < w.heap.size) : fm.EnvF w := ⟨⟨hz, h.tab, h.syn, h.ran, h.bads⟩, h.ops⟩
/-- It begins with the sign of a formula. -/
def eqS (s : ByteArray) : Bool := (s.extract 0 1).toList == [61]
set_option maxHeartbeats 1600000 in
theorem slite_any (s : ByteArray) (w : World) (hs : 1 ≤ s.size) (hz : s.size ≤ 200) : Calls Tryz.prog 47 #[.string s, .string ⟨#[61]⟩] w fun e w' => e = .returned (.bool (eqS s)) ∧ w' = w := by
  have h1 : (1 : Int) ≤ (s.size : Int) := by omega
  have h2 : (s.size : Int) ≤ 200 := by omega
  obtain ⟨b, hb⟩ : ∃ b, eqS s = b := ⟨_, rfl⟩
  have hb' : ((s.extract 0 1).toList == [61]) = b := hb
  rw [hb]
  clear hb
  go_enter Tryz.func47, Tryz.ntmps47
  go_wp2_with fail
  go_ret
  exact ⟨rfl, rfl⟩
set_option maxHeartbeats 1600000 in
theorem prefix_any (s : ByteArray) (w : World) (hs : 1 ≤ s.size) (hz : s.size ≤ 200) : Calls Tryz.prog 43 #[.string s, .string ⟨#[61]⟩] w fun e w' => e = .returned (.bool (eqS s)) ∧ w' = w := by
  have H : Hid (Calls Tryz.prog 47 #[.string s, .string ⟨#[61]⟩] w fun e w' => e = .returned (.bool (eqS s)) ∧ w' = w) := slite_any s w hs hz
  go_enter Tryz.func43, Tryz.ntmps43
  go_wp2_with fail
  refine H.out.mono ?_
  rintro e w1 ⟨rfl, rfl⟩
  go_wp2_with fail
  go_ret
  exact ⟨rfl, rfl⟩
set_option maxHeartbeats 1600000 in
theorem constant_any (s : ByteArray) (w : World) (hs : 1 ≤ s.size) (hz : s.size ≤ 200) : Calls Tryz.prog 38 #[.string s] w fun e w' => e = .returned (.bool (!eqS s)) ∧ w' = w := by
  have H : Hid (Calls Tryz.prog 43 #[.string s, .string ⟨#[61]⟩] w fun e w' => e = .returned (.bool (eqS s)) ∧ w' = w) := prefix_any s w hs hz
  go_enter Tryz.func38, Tryz.ntmps38
  go_wp2_with fail
  refine H.out.mono ?_
  rintro e w1 ⟨rfl, rfl⟩
  go_wp2_with fail
  go_ret
  exact ⟨rfl, rfl⟩
/-- What is told of a text: no fault, and then it is not empty; or one. -/
def FO (s : ByteArray) (v : Value) : Prop := (v = .nilIface ∧ s.size ≠ 0) ∨ ((∃ t x, v = .iface t x) ∧ ¬ (s.size ≠ 0 ∧ s.size ≤ 200 ∧ eqS s = false))
set_option maxRecDepth 100000 in
set_option maxHeartbeats 8000000 in
theorem formulaOf_any (s : ByteArray) (w : World) (hE : EnvP w) (hz : 9 < w.heap.size) :
    Calls Tryz.prog 31 #[.string s] w fun e w' => (∃ k n z r t kd m c v, e = .returned (.tuple #[fm.NV k n z r t (.slice kd m c), v]) ∧ FO s v) ∧ Below w.heap.size w w' := by
  have HE : Hid (EnvP w ∧ 9 < w.heap.size) := ⟨hE, hz⟩
  clear hE hz
  go_enter Tryz.func31, Tryz.ntmps31
  cases h0 : s.toList.isEmpty with
  | true =>
    have HE0 : Hid (s.size = 0) := emp_yes h0
    go_wp2_with fail
    exact bodyPost_ret (v := .tuple #[fm.NV 0 0 nul .z .z (.slice none 0 0), .iface 48 (.int .i64 3)]) (by simp [results, Tryz.results31, go_sem]) rfl ⟨⟨_, _, _, _, _, _, _, _, _, rfl, .inr ⟨⟨_, _, rfl⟩, fun h => h.1 HE0.out⟩⟩, (Below.refl _ _).alloc (Nat.le_refl _) _⟩
  | false =>
    have HE0 : Hid (s.size ≠ 0) := emp_no h0
    by_cases h2 : s.size ≤ 200
    · have hl : ¬ (200 : Int) < (s.size : Int) := by omega
      have HC : Hid (∀ wx, Calls Tryz.prog 38 #[.string s] wx fun e w' => e = .returned (.bool (!eqS s)) ∧ w' = wx) := fun wx => constant_any s wx (by have := HE0.out; omega) h2
      go_wp2_with fail
      refine (HC.out _).mono ?_
      rintro e w1 ⟨rfl, rfl⟩
      cases hq : eqS s with
      | false =>
        go_wp2_with fail
        exact bodyPost_ret (v := .tuple #[fm.NV 0 0 nul .z .z (.slice none 0 0), .nilIface]) (by simp [results, Tryz.results31, go_sem]) rfl ⟨⟨_, _, _, _, _, _, _, _, _, rfl, .inl ⟨rfl, HE0.out⟩⟩, (Below.refl _ _).alloc (Nat.le_refl _) _⟩
      | true =>
        have HQ : Hid (eqS s = true) := hq
        have hb0 : Below w.heap.size w (w.alloc (.cells fm.NZ 65)) := (Below.refl _ _).alloc (Nat.le_refl _) _
        have hr0 := heap_alloc_new w (.cells fm.NZ 65)
        obtain ⟨RR, hRR⟩ : ∃ RR, fm.parse fm.lexP s = RR := ⟨_, rfl⟩
        have HPa : Hid (Calls Tryz.prog 39 #[.string s] (w.alloc (.cells fm.NZ 65)) (fm.OutP (w.alloc (.cells fm.NZ 65)) RR)) := fm.parse_any s _ ((HE.out.1.below hb0 HE.out.1.size).full (by have := HE.out.2; simp; omega)) (by omega) RR hRR
        clear hRR
        go_wp2_with fail
        refine HPa.out.mono ?_
        intro e w1 hO
        cases RR with
        | ok t k =>
          obtain ⟨v, rfl, hN, hb⟩ := hO
          have hr1 := (hb.block _ (fm.lt_blk hr0)).trans hr0
          have hlt := fm.lt_blk hr1
          have HB1 : Hid (Below w.heap.size w w1 ∧ w1.heap[w.heap.size]? = some (.cells fm.NZ 65 (0, 0))) := ⟨bnext hb0 hb hb0.size, hr1⟩
          cases hN with
          | @mk a1 n1 s1 r1 t1 p1 m1 e1 us ts hk hl' hs' =>
          clear hk hl' hs' hb hb0 hr0
          obtain ⟨⟨b0, b1, b2, b3, b4, b5, b6, b7, b8, b9, b10, b11⟩, bf⟩ := fm.cells12 hr1
          clear hr1
          go_wp2_with fail
          refine fm.fin12 HB1.out.2 (Q := fun W => bodyPost _ _ _ _ _ (W.alloc _)) ?_
          intro w2 hr2 hk2
          have hq := fun O => (fm.cells12 ((Below.heap_alloc w2 O _ (fm.lt_blk hr2)).trans hr2)).1
          have hB2 : Below w.heap.size w w2 := HB1.out.1.trans (hk2.toBelow (B := w.heap.size) HB1.out.1.size (fun n hn e => by omega))
          exact bodyPost_ret (v := .tuple #[fm.NV a1 n1 s1 r1 t1 (.slice p1 m1 e1), .nilIface]) (by simp [results, Tryz.results31, go_sem, hq]) rfl ⟨⟨_, _, _, _, _, _, _, _, _, rfl, .inl ⟨rfl, HE0.out⟩⟩, hB2.alloc hB2.size _⟩
        | err k c =>
          obtain ⟨rfl, hb⟩ := hO
          have hr1 := (hb.block _ (fm.lt_blk hr0)).trans hr0
          have hlt := fm.lt_blk hr1
          have HB1 : Hid (Below w.heap.size w w1 ∧ w1.heap[w.heap.size]? = some (.cells fm.NZ 65 (0, 0))) := ⟨bnext hb0 hb hb0.size, hr1⟩
          clear hb hb0 hr0
          obtain ⟨⟨b0, b1, b2, b3, b4, b5, b6, b7, b8, b9, b10, b11⟩, bf⟩ := fm.cells12 hr1
          clear hr1
          go_wp2_with fail
          refine fm.fin12 HB1.out.2 (Q := fun W => bodyPost _ _ _ _ _ (W.alloc _)) ?_
          intro w2 hr2 hk2
          have hq := fun O => (fm.cells12 ((Below.heap_alloc w2 O _ (fm.lt_blk hr2)).trans hr2)).1
          have hB2 : Below w.heap.size w w2 := HB1.out.1.trans (hk2.toBelow (B := w.heap.size) HB1.out.1.size (fun n hn e => by omega))
          exact bodyPost_ret (v := .tuple #[fm.NV 0 0 nul .z .z (.slice none 0 0), .iface 48 (.int .i64 2)]) (by simp [results, Tryz.results31, go_sem, hq]) rfl ⟨⟨_, _, _, _, _, _, _, _, _, rfl, .inr ⟨⟨_, _, rfl⟩, fun h => by rw [HQ.out] at h; exact absurd h.2.2 (by decide)⟩⟩, hB2.alloc hB2.size _⟩
    · have hl : (200 : Int) < (s.size : Int) := by omega
      go_wp2_with fail
      exact bodyPost_ret (v := .tuple #[fm.NV 0 0 nul .z .z (.slice none 0 0), .iface 48 (.int .i64 4)]) (by simp [results, Tryz.results31, go_sem]) rfl ⟨⟨_, _, _, _, _, _, _, _, _, rfl, .inr ⟨⟨_, _, rfl⟩, fun h => h2 h.2.1⟩⟩, (Below.refl _ _).alloc (Nat.le_refl _) _⟩
end Go.Proofs.YtpgjmbbdhilhkaaGreatDoor.ps
