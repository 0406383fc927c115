/- An operand is written: in brackets, if it is looser than asked for. Conditions: the package variables as the program's text lays them; lengths below a million. -/
import Derived.Test.YtoaejcppfmjhdaaGreatDoorPh
import Derived.Test.YtoaejcppfmjhdaaGreatDoorPe
import Derived.Test.YtoaejcppfmjhdaaGreatDoorPf
import Derived.Test.YtoaejcppfmjhdaaGreatDoorEi
import Derived.Test.YtoaejcppfmjhdaaGreatDoorEq
import Derived.Test.YtoaejcppfmjhdaaGreatDoorEr
namespace Go.Proofs.YtoaejcppfmjhdaaGreatDoor.fm
open Go.RowKit
theorem Kw.blk {B wb : Nat} {w w' : World} (h : Kw B wb w w') {b : Nat} {cs : Array Value} {t : TypeId} {f : Nat × Nat} (hb : w.heap[b]? = some (.cells cs t f)) (ht : t ≠ 5) (hne : b ≠ wb) : w'.heap[b]? = some (.cells cs t f) :=
  h.o b _ hb (fun e => hne (Option.some.inj e)) (fun c fz e => ht (by injection e))
/-- What a call of the writer's with a node writes. -/
def NodeOK (w0 : World) (v : Value) (x : List UInt8) (dp : Nat) : Prop := ∀ (w : World) (wb : Nat) (y : List UInt8) (d m : Nat), Below w0.heap.size w0 w → WB w w0.heap.size wb y d m → d ≤ m → m ≤ 500000 ∧ d + dp ≤ 500000 → y.length + x.length ≤ 1000000 →
  Calls Tryz.prog 103 #[ptr wb, v] w fun e w' => e = .returned (.tuple #[]) ∧ WB w' w0.heap.size wb (y ++ x) d (max m (d + dp)) ∧ Kw w0.heap.size wb w w'
def OpdOK (w0 : World) (v : Value) (l : Nat) (x : List UInt8) (dp : Nat) : Prop := ∀ (w : World) (wb : Nat) (y : List UInt8) (d m : Nat), Below w0.heap.size w0 w → WB w w0.heap.size wb y d m → d ≤ m → m ≤ 500000 ∧ d + dp ≤ 500000 → y.length + x.length ≤ 1000000 →
  Calls Tryz.prog 143 #[ptr wb, v, .int .i64 (l : Nat)] w fun e w' => e = .returned (.tuple #[]) ∧ WB w' w0.heap.size wb (y ++ x) d (max m (d + dp)) ∧ Kw w0.heap.size wb w w'
theorem clos95 (wb pb nb : Nat) (v : Value) (k n : Int) (s : ByteArray) (r t : Rf) (u : Value) (hv : v = NV k n s r t u) (w : World) (hp : w.heap[pb]? = some (.cells #[ptr wb] 166 (0, 0))) (hn : w.heap[nb]? = some (.cells (N12 k n s r t u) 28 (0, 0))) (Q : Ending → World → Prop)
    (h : Calls Tryz.prog 103 #[ptr wb, v] w fun e w' => e = .returned (.tuple #[]) ∧ Q e w') : Calls Tryz.prog 227 #[ptr pb, ptr nb] w fun e w' => e = .returned (.tuple #[]) ∧ Q e w' := by
  subst hv
  obtain ⟨p0, p1⟩ := cells1 hp
  obtain ⟨⟨a0, a1, a2, a3, a4, a5, a6, a7, a8, a9, a10, a11⟩, af⟩ := cells12 hn
  have HH : Hid (Calls Tryz.prog 103 #[ptr wb, NV k n s r t u] w fun e w' => e = .returned (.tuple #[]) ∧ Q e w') := h
  clear h
  go_enter Tryz.func227, Tryz.ntmps227
  go_wp2_with fail
  refine HH.out.mono ?_
  rintro e w1 ⟨rfl, hq⟩
  have HQ : Hid (Q (.returned (.tuple #[])) w1) := hq
  clear hq
  go_wp2_with fail
  go_end0
  exact ⟨rfl, HQ.out⟩
set_option maxHeartbeats 4000000 in
set_option maxRecDepth 100000 in
theorem opd_loose (w0 : World) (hE : EnvW w0) (op l : Nat) (h1 : 1 ≤ op) (h11 : op ≤ 11) (s : ByteArray) (r t : Rf) (p : Option Addr) (q c : Nat) (x : List UInt8) (dp : Nat) (hN : NodeOK w0 (NV 8 op s r t (.slice p q c)) x dp) (hl : lev op < l) : OpdOK w0 (NV 8 op s r t (.slice p q c)) l (40 :: (x ++ [41])) (dp + 1) := by
  intro w wb y d m hb hW hdm hm hlen
  have hEw := hE.below hb hE.lt
  have hB := hW.ge
  have hs0 := hb.size
  have hlt := hW.lt
  have hW2 := (hW.alloc (.cells #[ptr wb] 166)).alloc (.cells (N12 8 op s r t (.slice p q c)) 28)
  have kW2 : Kw w0.heap.size wb w ((w.alloc (.cells #[ptr wb] 166)).alloc (.cells (N12 8 op s r t (.slice p q c)) 28)) := ((Kw.refl _ _ _).alloc hs0 _).alloc (by simp; omega) _
  have hp2 : ((w.alloc (.cells #[ptr wb] 166)).alloc (.cells (N12 8 op s r t (.slice p q c)) 28)).heap[w.heap.size]? = some (.cells #[ptr wb] 166 (0, 0)) := by
    rw [Below.heap_alloc _ _ _ (by simp)]; exact blk_new _ _
  have hn2 : ((w.alloc (.cells #[ptr wb] 166)).alloc (.cells (N12 8 op s r t (.slice p q c)) 28)).heap[w.heap.size + 1]? = some (.cells (N12 8 op s r t (.slice p q c)) 28 (0, 0)) := by
    have := blk_new (w.alloc (.cells #[ptr wb] 166)) (.cells (N12 8 op s r t (.slice p q c)) 28)
    simpa using this
  have hE2 := hEw.below kW2.b hE.lt
  have hcell := (hE2.f.cell op (by omega)).2
  have hcell0 := (hEw.f.cell op (by omega)).2
  rw [show 2 * op + 1 = op * 2 + 1 from by omega] at hcell hcell0
  obtain ⟨p0, p1⟩ := cells1 hp2
  obtain ⟨⟨a0, a1, a2, a3, a4, a5, a6, a7, a8, a9, a10, a11⟩, af⟩ := cells12 hn2
  have hlv : opLv op = lev op := by
    have hc : op = 1 ∨ op = 2 ∨ op = 3 ∨ op = 4 ∨ op = 5 ∨ op = 6 ∨ op = 7 ∨ op = 8 ∨ op = 9 ∨ op = 10 ∨ op = 11 := by omega
    rcases hc with rfl | rfl | rfl | rfl | rfl | rfl | rfl | rfl | rfl | rfl | rfl <;> rfl
  have hl' : ((opLv op : Nat) : Int) < (l : Int) := by omega
  have i0 : (0 : Int) ≤ (op : Int) := by omega
  have i1 : (op : Int) < 12 := by omega
  have HD := deeper95 w0.heap.size wb w.heap.size (w.heap.size + 1) y x ⟨#[40]⟩ ⟨#[41]⟩ d m dp _ hW2 hdm (by omega) (by simp at hlen ⊢; have e1 : (⟨#[40]⟩ : ByteArray).size = 1 := rfl; have e2 : (⟨#[41]⟩ : ByteArray).size = 1 := rfl; omega) (by simp; omega) (fun w1 hW1 hk1 => by
    have hp1 := hk1.blk hp2 (by decide) (by omega)
    have hn1 := hk1.blk hn2 (by decide) (by omega)
    exact clos95 wb _ _ _ 8 op s r t _ rfl w1 hp1 hn1 (fun _ w' => WB w' w0.heap.size wb (y ++ (⟨#[40]⟩ : ByteArray).data.toList ++ x) (d + 1) (max (max m (d + 1)) (d + 1 + dp)) ∧ Kw w0.heap.size wb w1 w')
      (hN w1 wb _ (d + 1) (max m (d + 1)) ((hb.trans kW2.b).trans hk1.b) hW1 (by omega) (by omega) (by simp at hlen ⊢; omega)))
  have HDD : Hid (Calls Tryz.prog 141 #[ptr wb, .string ⟨#[40]⟩, .func (.func 227) #[] #[ptr w.heap.size, ptr (w.heap.size + 1)], .string ⟨#[41]⟩] ((w.alloc (.cells #[ptr wb] 166)).alloc (.cells (N12 8 op s r t (.slice p q c)) 28)) fun e w' => e = .returned (.tuple #[]) ∧ WB w' w0.heap.size wb (y ++ (⟨#[40]⟩ : ByteArray).data.toList ++ x ++ (⟨#[41]⟩ : ByteArray).data.toList) d (max m (d + 1 + dp)) ∧ Kw w0.heap.size wb ((w.alloc (.cells #[ptr wb] 166)).alloc (.cells (N12 8 op s r t (.slice p q c)) 28)) w') := HD
  have hmf : ∀ (fn : Fn) (first cap : Array Value) (w : World), (Instr.makeFunc fn first cap).run Tryz.prog w = .ok (.func fn first cap) w := fun _ _ _ _ => rfl
  have HK : Hid (Kw w0.heap.size wb w ((w.alloc (.cells #[ptr wb] 166)).alloc (.cells (N12 8 op s r t (.slice p q c)) 28))) := kW2
  clear HD hN hE hEw hE2 kW2 hW hW2 hp2 hn2 hb
  go_enter Tryz.func143, Tryz.ntmps143
  go_wp2_with fail
  refine HDD.out.mono ?_
  rintro e w3 ⟨rfl, h3, k3⟩
  go_wp2_with fail
  refine bodyPost_ret (v := .tuple #[]) (by simp [results, Tryz.results143]) rfl ⟨rfl, ?_, HK.out.trans k3⟩
  rw [show d + (dp + 1) = d + 1 + dp from by omega]
  simpa using h3
theorem opLv_lev {op : Nat} (h1 : 1 ≤ op) (h11 : op ≤ 11) : opLv op = lev op := by
  have hc : op = 1 ∨ op = 2 ∨ op = 3 ∨ op = 4 ∨ op = 5 ∨ op = 6 ∨ op = 7 ∨ op = 8 ∨ op = 9 ∨ op = 10 ∨ op = 11 := by omega
  rcases hc with rfl | rfl | rfl | rfl | rfl | rfl | rfl | rfl | rfl | rfl | rfl <;> rfl
set_option maxHeartbeats 4000000 in
set_option maxRecDepth 100000 in
theorem opd_tight (w0 : World) (hE : EnvW w0) (op l : Nat) (h1 : 1 ≤ op) (h11 : op ≤ 11) (s : ByteArray) (r t : Rf) (p : Option Addr) (q c : Nat) (x : List UInt8) (dp : Nat) (hN : NodeOK w0 (NV 8 op s r t (.slice p q c)) x dp) (hl : ¬ lev op < l) : OpdOK w0 (NV 8 op s r t (.slice p q c)) l x dp := by
  intro w wb y d m hb hW hdm hm hlen
  have hEw := hE.below hb hE.lt
  have hs0 := hb.size
  have hW2 := (hW.alloc (.cells #[ptr wb] 166)).alloc (.cells (N12 8 op s r t (.slice p q c)) 28)
  have kW2 : Kw w0.heap.size wb w ((w.alloc (.cells #[ptr wb] 166)).alloc (.cells (N12 8 op s r t (.slice p q c)) 28)) := ((Kw.refl _ _ _).alloc hs0 _).alloc (by simp; omega) _
  have hE2 := hEw.below kW2.b hE.lt
  have hcell := (hE2.f.cell op (by omega)).2
  have hcell0 := (hEw.f.cell op (by omega)).2
  rw [show 2 * op + 1 = op * 2 + 1 from by omega] at hcell hcell0
  have hlv := opLv_lev h1 h11
  have hl' : ¬ ((opLv op : Nat) : Int) < (l : Int) := by omega
  have i0 : (0 : Int) ≤ (op : Int) := by omega
  have i1 : (op : Int) < 12 := by omega
  have HC : Hid (Calls Tryz.prog 103 #[ptr wb, NV 8 op s r t (.slice p q c)] ((w.alloc (.cells #[ptr wb] 166)).alloc (.cells (N12 8 op s r t (.slice p q c)) 28)) fun e w' => e = .returned (.tuple #[]) ∧ WB w' w0.heap.size wb (y ++ x) d (max m (d + dp)) ∧ Kw w0.heap.size wb ((w.alloc (.cells #[ptr wb] 166)).alloc (.cells (N12 8 op s r t (.slice p q c)) 28)) w') := hN _ wb y d m (hb.trans kW2.b) hW2 hdm hm hlen
  have HK : Hid (Kw w0.heap.size wb w ((w.alloc (.cells #[ptr wb] 166)).alloc (.cells (N12 8 op s r t (.slice p q c)) 28))) := kW2
  clear hN hE hEw hE2 kW2 hW hW2 hb
  go_enter Tryz.func143, Tryz.ntmps143
  go_wp2_with fail
  refine HC.out.mono ?_
  rintro e w3 ⟨rfl, h3, k3⟩
  go_wp2_with fail
  go_end0
  exact ⟨rfl, h3, HK.out.trans k3⟩
set_option maxHeartbeats 4000000 in
set_option maxRecDepth 100000 in
theorem opd_plain (w0 : World) (k n : Int) (l : Nat) (h8 : ¬ k = 8) (s : ByteArray) (r t : Rf) (p : Option Addr) (q c : Nat) (x : List UInt8) (dp : Nat) (hN : NodeOK w0 (NV k n s r t (.slice p q c)) x dp) : OpdOK w0 (NV k n s r t (.slice p q c)) l x dp := by
  intro w wb y d m hb hW hdm hm hlen
  have hs0 := hb.size
  have hW2 := (hW.alloc (.cells #[ptr wb] 166)).alloc (.cells (N12 k n s r t (.slice p q c)) 28)
  have kW2 : Kw w0.heap.size wb w ((w.alloc (.cells #[ptr wb] 166)).alloc (.cells (N12 k n s r t (.slice p q c)) 28)) := ((Kw.refl _ _ _).alloc hs0 _).alloc (by simp; omega) _
  have HC : Hid (Calls Tryz.prog 103 #[ptr wb, NV k n s r t (.slice p q c)] ((w.alloc (.cells #[ptr wb] 166)).alloc (.cells (N12 k n s r t (.slice p q c)) 28)) fun e w' => e = .returned (.tuple #[]) ∧ WB w' w0.heap.size wb (y ++ x) d (max m (d + dp)) ∧ Kw w0.heap.size wb ((w.alloc (.cells #[ptr wb] 166)).alloc (.cells (N12 k n s r t (.slice p q c)) 28)) w') := hN _ wb y d m (hb.trans kW2.b) hW2 hdm hm hlen
  have HK : Hid (Kw w0.heap.size wb w ((w.alloc (.cells #[ptr wb] 166)).alloc (.cells (N12 k n s r t (.slice p q c)) 28))) := kW2
  clear hN kW2 hW hW2 hb
  go_enter Tryz.func143, Tryz.ntmps143
  go_wp2_with fail
  refine HC.out.mono ?_
  rintro e w3 ⟨rfl, h3, k3⟩
  go_wp2_with fail
  go_end0
  exact ⟨rfl, h3, HK.out.trans k3⟩
theorem brk_yes {l : Nat} {t : T} (h : loose l t = true) (x : List UInt8) (d : Nat) : brk l t x = 40 :: (x ++ [41]) ∧ brd l t d = d + 1 := by unfold brk brd; rw [h]; exact ⟨rfl, rfl⟩
theorem brk_no {l : Nat} {t : T} (h : loose l t = false) (x : List UInt8) (d : Nat) : brk l t x = x ∧ brd l t d = d := by unfold brk brd; rw [h]; exact ⟨rfl, rfl⟩
theorem loose_two (l op : Nat) (s : ByteArray) (r t : Rf) (ts : List T) : loose l (.nd 8 op s r t ts) = decide (lev op < l) := by
  unfold loose
  show (decide ((8 : Int) = 8) && decide (lev ((op : Int)).toNat < l)) = _
  rw [Int.toNat_natCast]; simp
theorem loose_not (l : Nat) {k : Int} (n : Int) (h : ¬ k = 8) (s : ByteArray) (r t : Rf) (ts : List T) : loose l (.nd k n s r t ts) = false := by
  unfold loose
  show (decide (k = 8) && _) = _
  rw [decide_eq_false h]; rfl
/-- Any operand. -/
theorem opd_any (w0 : World) (hE : EnvW w0) {P : Nat → Prop} {v : Value} {a : T} {x : List UInt8} {dp : Nat} (hNd : Nd w0 P v a) (hw : W ink a x dp) (hN : NodeOK w0 v x dp) (l : Nat) : OpdOK w0 v l (brk l a x) (brd l a dp) := by
  cases hNd with
  | @mk k n s r t p m c us ts hk hl hs =>
  by_cases h8 : k = 8
  · subst h8
    obtain ⟨op, rfl, h1, h11⟩ : ∃ op : Nat, n = (op : Int) ∧ 1 ≤ op ∧ op ≤ 11 := by
      cases hw with
      | two h1 h11 ha hb hx hy => exact ⟨_, rfl, h1, h11⟩
    by_cases hl : lev op < l
    · have e := brk_yes (by rw [loose_two, decide_eq_true hl] : loose l (.nd 8 op s r t ts) = true) x dp
      rw [e.1, e.2]
      exact opd_loose w0 hE op l h1 h11 _ _ _ _ _ _ _ _ hN hl
    · have e := brk_no (by rw [loose_two, decide_eq_false hl] : loose l (.nd 8 op s r t ts) = false) x dp
      rw [e.1, e.2]
      exact opd_tight w0 hE op l h1 h11 _ _ _ _ _ _ _ _ hN hl
  · have e := brk_no (loose_not l n h8 s r t ts) x dp
    rw [e.1, e.2]
    exact opd_plain w0 k n l h8 _ _ _ _ _ _ _ _ hN
end Go.Proofs.YtoaejcppfmjhdaaGreatDoor.fm
/- A node is written: leaves, what is negative. Conditions: the package variables as the program's text lays them; lengths below a million. -/
namespace Go.Proofs.YtoaejcppfmjhdaaGreatDoor.fm
open Go.RowKit
theorem Kw.of {B wb : Nat} {w w' : World} (h : Below w.heap.size w w') (hB : B ≤ w.heap.size) : Kw B wb w w' :=
  ⟨h.mono hB, fun b o hb _ _ => by rw [h.block b (Array.getElem?_eq_some_iff.1 hb).1]; exact hb⟩
theorem WB.below {w w' : World} {B wb : Nat} {x : List UInt8} {d m : Nat} (h : WB w B wb x d m) (hb : Below w.heap.size w w') : WB w' B wb x d m := by
  have hl := h.lt
  obtain ⟨hB, p, v, hp, h1, h2⟩ := h
  exact ⟨hB, p, v, hp, by rw [hb.block wb hl]; exact h1, h2.kept (row := none) ⟨hb.os, hb.tape, hb.output, hb.size, fun k hk _ => hb.block k hk⟩ (by cases hv : v.ownBlock <;> simp)⟩
theorem leaf_any (w : World) (hE : EnvW w) {k n : Int} {s : ByteArray} {r t : Rf} {ts : List T} {x : List UInt8} {dp : Nat} (h : W ink (.nd k n s r t ts) x dp) (h7 : ¬ k = 7) (h8 : ¬ k = 8) (h9 : ¬ k = 9) (p : Option Addr) (m c : Nat) :
    dp = 0 ∧ Calls Tryz.prog 146 #[NV k n s r t (.slice p m c)] w fun e w' => e = .returned (.string ⟨x.toArray⟩) ∧ Below w.heap.size w w' := by
  cases h with
  | num h0 h1 => exact ⟨rfl, leaf_num n _ _ _ p m c w hE h0 h1⟩
  | text h => exact ⟨rfl, leaf_text 0 s _ _ p m c w hE h⟩
  | truth h => exact ⟨rfl, leaf_truth n _ _ _ p m c w h⟩
  | bad h h6 => exact ⟨rfl, leaf_bad _ _ _ _ p m c w hE h h6⟩
  | ref h => exact ⟨rfl, leaf_ref 0 _ _ _ p m c w h⟩
  | box h h2 => exact ⟨rfl, leaf_box 0 _ _ _ p m c w h h2⟩
  | neg _ _ => exact absurd rfl h7
  | two _ _ _ _ _ _ => exact absurd rfl h8
  | call _ _ _ _ => exact absurd rfl h9
set_option maxHeartbeats 4000000 in
set_option maxRecDepth 100000 in
theorem node_leaf (w0 : World) (hE : EnvW w0) {k n : Int} {s : ByteArray} {r t : Rf} {ts : List T} {x : List UInt8} {dp : Nat} (h : W ink (.nd k n s r t ts) x dp) (h7 : ¬ k = 7) (h8 : ¬ k = 8) (h9 : ¬ k = 9) (p : Option Addr) (q c : Nat) : NodeOK w0 (NV k n s r t (.slice p q c)) x dp := by
  intro w wb y d m hb hW hdm hm hlen
  have hs0 := hb.size
  have hEw := hE.below hb hE.lt
  have hW2 := (hW.alloc (.cells #[ptr wb] 166)).alloc (.cells (N12 k n s r t (.slice p q c)) 28)
  have kW2 : Kw w0.heap.size wb w ((w.alloc (.cells #[ptr wb] 166)).alloc (.cells (N12 k n s r t (.slice p q c)) 28)) := ((Kw.refl _ _ _).alloc hs0 _).alloc (by simp; omega) _
  have hp2 : ((w.alloc (.cells #[ptr wb] 166)).alloc (.cells (N12 k n s r t (.slice p q c)) 28)).heap[w.heap.size]? = some (.cells #[ptr wb] 166 (0, 0)) := by
    rw [Below.heap_alloc _ _ _ (by simp)]; exact blk_new _ _
  have hn2 : ((w.alloc (.cells #[ptr wb] 166)).alloc (.cells (N12 k n s r t (.slice p q c)) 28)).heap[w.heap.size + 1]? = some (.cells (N12 k n s r t (.slice p q c)) 28 (0, 0)) := by
    have := blk_new (w.alloc (.cells #[ptr wb] 166)) (.cells (N12 k n s r t (.slice p q c)) 28)
    simpa using this
  have hE2 := hEw.below kW2.b hE.lt
  obtain ⟨rfl, _⟩ := leaf_any _ hE2 h h7 h8 h9 p q c
  have hE2d : EnvW (((w.alloc (.cells #[ptr wb] 166)).alloc (.cells (N12 k n s r t (.slice p q c)) 28)).drew) := hE2.below ((Below.refl _ _).drew) hE2.lt
  obtain ⟨_, HL⟩ := leaf_any _ hE2d h h7 h8 h9 p q c
  obtain ⟨⟨a0, a1, a2, a3, a4, a5, a6, a7, a8, a9, a10, a11⟩, af⟩ := cells12 hn2
  obtain ⟨p0, p1⟩ := cells1 hp2
  clear af p1
  have h7' : (k == 7) = false := by simpa using h7
  have h8' : (k == 8) = false := by simpa using h8
  have h9' : (k == 9) = false := by simpa using h9
  have hlt0 := hW.lt
  clear h hE hEw hE2 hE2d hW h7 h8 h9
  go_enter Tryz.func103, Tryz.ntmps103
  go_wp2_with fail
  generalize (w.alloc (.cells #[ptr wb] 166)).alloc _ = w2 at *
  have HLL : Hid (Calls Tryz.prog 146 #[NV k n s r t (.slice p q c)] w2.drew fun e w' => e = .returned (.string ⟨x.toArray⟩) ∧ Below w2.drew.heap.size w2.drew w') := HL
  have hs2 := kW2.b.size
  have HWR : Hid (∀ w3, Below w2.drew.heap.size w2.drew w3 → Calls Tryz.prog 102 #[ptr wb, .string ⟨x.toArray⟩] w3 fun e w' => e = .returned (.tuple #[.int .i64 (⟨x.toArray⟩ : ByteArray).size, .nilIface]) ∧ WB w' w0.heap.size wb (y ++ x) d m ∧ Kw w0.heap.size wb w2.drew w') := fun w3 hb3 => by
    have hs3 := hb3.size
    have e2 : w2.drew.heap.size = w2.heap.size := rfl
    refine (write_any w0.heap.size wb y d m ⟨x.toArray⟩ w3 (WB.below hW2.drew hb3) (by show y.length + x.toArray.size ≤ _; simp; omega) (by omega)).mono ?_
    rintro e w4 ⟨rfl, h4, k4⟩
    exact ⟨rfl, by simpa using h4, (Kw.of hb3 (by omega)).trans k4⟩
  have hw1 : w.heap.size ≠ wb := by have := hlt0; omega
  have hw2 : w.heap.size + 1 ≠ wb := by have := hlt0; omega
  have KK : Hid (∀ wx, Kw w0.heap.size wb w2.drew wx → wx.cell? ⟨w.heap.size, 0, none⟩ = some (ptr wb) ∧ wx.cell? ⟨w.heap.size + 1, 0, none⟩ = some (.int .i64 k) ∧ wx.cell? ⟨w.heap.size + 1, 1, none⟩ = some (.int .i64 n) ∧ wx.cell? ⟨w.heap.size + 1, 2, none⟩ = some (.string s) ∧ wx.cell? ⟨w.heap.size + 1, 3, none⟩ = some (.int .i64 r.c) ∧ wx.cell? ⟨w.heap.size + 1, 4, none⟩ = some (.int .i64 r.r) ∧ wx.cell? ⟨w.heap.size + 1, 5, none⟩ = some (.bool r.fc) ∧ wx.cell? ⟨w.heap.size + 1, 6, none⟩ = some (.bool r.fr) ∧ wx.cell? ⟨w.heap.size + 1, 7, none⟩ = some (.int .i64 t.c) ∧ wx.cell? ⟨w.heap.size + 1, 8, none⟩ = some (.int .i64 t.r) ∧ wx.cell? ⟨w.heap.size + 1, 9, none⟩ = some (.bool t.fc) ∧ wx.cell? ⟨w.heap.size + 1, 10, none⟩ = some (.bool t.fr) ∧ wx.cell? ⟨w.heap.size + 1, 11, none⟩ = some (.slice p q c)) := fun wx hk => by
    obtain ⟨⟨a0, a1, a2, a3, a4, a5, a6, a7, a8, a9, a10, a11⟩, af⟩ := cells12 (hk.blk (w := w2.drew) hn2 (by decide) hw2)
    obtain ⟨p0, p1⟩ := cells1 (hk.blk (w := w2.drew) hp2 (by decide) hw1)
    exact ⟨p0, a0, a1, a2, a3, a4, a5, a6, a7, a8, a9, a10, a11⟩
  have KO : Hid (∀ wx, Below w2.drew.heap.size w2.drew wx → Kw w0.heap.size wb w2.drew wx) := fun wx hb => Kw.of hb (by have e2 : w2.drew.heap.size = w2.heap.size := rfl; omega)
  have HK : Hid (Kw w0.heap.size wb w w2.drew) := kW2.drew
  clear HL hW2 kW2 hn2 hp2 hw1 hw2 hs2 hlt0
  go_region_held3 (fun wx => wx.cell? ⟨w.heap.size, 0, none⟩ = some (ptr wb) ∧ wx.cell? ⟨w.heap.size + 1, 0, none⟩ = some (.int .i64 k) ∧ wx.cell? ⟨w.heap.size + 1, 1, none⟩ = some (.int .i64 n) ∧ wx.cell? ⟨w.heap.size + 1, 2, none⟩ = some (.string s) ∧ wx.cell? ⟨w.heap.size + 1, 3, none⟩ = some (.int .i64 r.c) ∧ wx.cell? ⟨w.heap.size + 1, 4, none⟩ = some (.int .i64 r.r) ∧ wx.cell? ⟨w.heap.size + 1, 5, none⟩ = some (.bool r.fc) ∧ wx.cell? ⟨w.heap.size + 1, 6, none⟩ = some (.bool r.fr) ∧ wx.cell? ⟨w.heap.size + 1, 7, none⟩ = some (.int .i64 t.c) ∧ wx.cell? ⟨w.heap.size + 1, 8, none⟩ = some (.int .i64 t.r) ∧ wx.cell? ⟨w.heap.size + 1, 9, none⟩ = some (.bool t.fc) ∧ wx.cell? ⟨w.heap.size + 1, 10, none⟩ = some (.bool t.fr) ∧ wx.cell? ⟨w.heap.size + 1, 11, none⟩ = some (.slice p q c)) (first | exact KK.out _ (Kw.refl _ _ _) | exact KK.out _ (KO.out _ hb3) | exact KK.out _ k4) (first | (go_at_call 146; refine HLL.out.mono ?_; rintro e w3 ⟨rfl, hb3⟩) | (go_at_call 102; refine (HWR.out _ (by assumption)).mono ?_; rintro e w4 ⟨rfl, h4, k4⟩))
  all_goals
    go_wp2_with fail
    go_end0
    exact ⟨rfl, by rw [show max m (d + 0) = m from by omega]; exact h4, HK.out.trans k4⟩
end Go.Proofs.YtoaejcppfmjhdaaGreatDoor.fm
/- What is negative is written. Conditions: the package variables as the program's text lays them; lengths below a million. -/
namespace Go.Proofs.YtoaejcppfmjhdaaGreatDoor.fm
open Go.RowKit
set_option maxHeartbeats 4000000 in
set_option maxRecDepth 100000 in
theorem clos70 (B wb pb nb g o c : Nat) (k n : Int) (s : ByteArray) (r t : Rf) (k1 n1 : Int) (s1 : ByteArray) (ra rb : Rf) (v1 : Value) (w1 : World) (hp : w1.heap[pb]? = some (.cells #[ptr wb] 166 (0, 0))) (hn : w1.heap[nb]? = some (.cells (N12 k n s r t (.slice (some ⟨g, o, none⟩) 1 c)) 28 (0, 0))) (hg : g < B) (hpw : pb ≠ wb) (hnw : nb ≠ wb)
    (hkid : ∀ j x, (NV k1 n1 s1 ra rb v1).cells.toList[j]? = some x → w1.cell? ⟨g, o + j, none⟩ = some x) (R : World → Prop)
    (h : Calls Tryz.prog 143 #[ptr wb, NV k1 n1 s1 ra rb v1, .int .i64 5] w1.drew fun e w' => e = .returned (.tuple #[]) ∧ R w' ∧ Kw B wb w1.drew w') :
    Calls Tryz.prog 142 #[ptr pb, ptr nb] w1 fun e w' => e = .returned (.tuple #[]) ∧ R w' ∧ Kw B wb w1 w' := by
  have x0 := hkid 0 _ rfl
  have x1 := hkid 1 _ rfl
  have x2 := hkid 2 _ rfl
  have x3 := hkid 3 _ rfl
  have x4 := hkid 4 _ rfl
  have x5 := hkid 5 _ rfl
  have x6 := hkid 6 _ rfl
  have x7 := hkid 7 _ rfl
  have x8 := hkid 8 _ rfl
  have x9 := hkid 9 _ rfl
  have x10 := hkid 10 _ rfl
  have x11 := hkid 11 _ rfl
  have KK : Hid (∀ wx, Kw B wb w1.drew wx → wx.cell? ⟨pb, 0, none⟩ = some (ptr wb) ∧ wx.cell? ⟨nb, 11, none⟩ = some (.slice (some ⟨g, o, none⟩) 1 c) ∧ wx.cell? ⟨g, o, none⟩ = some (.int .i64 k1) ∧ wx.cell? ⟨g, o + 1, none⟩ = some (.int .i64 n1) ∧ wx.cell? ⟨g, o + 2, none⟩ = some (.string s1) ∧ wx.cell? ⟨g, o + 3, none⟩ = some (.int .i64 ra.c) ∧ wx.cell? ⟨g, o + 4, none⟩ = some (.int .i64 ra.r) ∧ wx.cell? ⟨g, o + 5, none⟩ = some (.bool ra.fc) ∧ wx.cell? ⟨g, o + 6, none⟩ = some (.bool ra.fr) ∧ wx.cell? ⟨g, o + 7, none⟩ = some (.int .i64 rb.c) ∧ wx.cell? ⟨g, o + 8, none⟩ = some (.int .i64 rb.r) ∧ wx.cell? ⟨g, o + 9, none⟩ = some (.bool rb.fc) ∧ wx.cell? ⟨g, o + 10, none⟩ = some (.bool rb.fr) ∧ wx.cell? ⟨g, o + 11, none⟩ = some (v1)) := fun wx hk => by
    have b11 := (cells12 (hk.blk (w := w1.drew) hn (by decide) hnw)).1.2.2.2.2.2.2.2.2.2.2.2
    have p0 := (cells1 (hk.blk (w := w1.drew) hp (by decide) hpw)).1
    have hc : ∀ i u, w1.cell? ⟨g, i, none⟩ = some u → wx.cell? ⟨g, i, none⟩ = some u := fun i u hu => by rw [hk.b.cell (p := ⟨g, i, none⟩) hg]; exact hu
    exact ⟨p0, b11, hc _ _ x0, hc _ _ x1, hc _ _ x2, hc _ _ x3, hc _ _ x4, hc _ _ x5, hc _ _ x6, hc _ _ x7, hc _ _ x8, hc _ _ x9, hc _ _ x10, hc _ _ x11⟩
  have HH : Hid (Calls Tryz.prog 143 #[ptr wb, NV k1 n1 s1 ra rb v1, .int .i64 5] w1.drew fun e w' => e = .returned (.tuple #[]) ∧ R w' ∧ Kw B wb w1.drew w') := h
  have HK : Hid (Kw B wb w1 w1.drew) := (Kw.refl _ _ _).drew
  have p0 := (cells1 hp).1
  have b11 := (cells12 hn).1.2.2.2.2.2.2.2.2.2.2.2
  simp only [Nat.add_zero] at x0
  clear h hp hn hkid hg hpw hnw
  go_enter Tryz.func142, Tryz.ntmps142
  go_wp2_with fail
  go_region_held3 (fun wx => wx.cell? ⟨pb, 0, none⟩ = some (ptr wb) ∧ wx.cell? ⟨nb, 11, none⟩ = some (.slice (some ⟨g, o, none⟩) 1 c) ∧ wx.cell? ⟨g, o, none⟩ = some (.int .i64 k1) ∧ wx.cell? ⟨g, o + 1, none⟩ = some (.int .i64 n1) ∧ wx.cell? ⟨g, o + 2, none⟩ = some (.string s1) ∧ wx.cell? ⟨g, o + 3, none⟩ = some (.int .i64 ra.c) ∧ wx.cell? ⟨g, o + 4, none⟩ = some (.int .i64 ra.r) ∧ wx.cell? ⟨g, o + 5, none⟩ = some (.bool ra.fc) ∧ wx.cell? ⟨g, o + 6, none⟩ = some (.bool ra.fr) ∧ wx.cell? ⟨g, o + 7, none⟩ = some (.int .i64 rb.c) ∧ wx.cell? ⟨g, o + 8, none⟩ = some (.int .i64 rb.r) ∧ wx.cell? ⟨g, o + 9, none⟩ = some (.bool rb.fc) ∧ wx.cell? ⟨g, o + 10, none⟩ = some (.bool rb.fr) ∧ wx.cell? ⟨g, o + 11, none⟩ = some (v1)) (first | exact KK.out _ (Kw.refl _ _ _) | exact KK.out _ k4) (first | (go_at_call 143; refine HH.out.mono ?_; rintro e w4 ⟨rfl, h4, k4⟩))
  all_goals
    go_wp2_with fail
    go_end0
    exact ⟨rfl, h4, HK.out.trans k4⟩
set_option maxHeartbeats 4000000 in
set_option maxRecDepth 100000 in
theorem node_neg (w0 : World) (g o c : Nat) (k1 n1 : Int) (s1 : ByteArray) (ra rb : Rf) (v1 : Value) (n : Int) (s : ByteArray) (r t : Rf) (x : List UInt8) (dp : Nat) (hg : g < w0.heap.size)
    (hkid : ∀ j x, (NV k1 n1 s1 ra rb v1).cells.toList[j]? = some x → w0.cell? ⟨g, o + j, none⟩ = some x) (hO : OpdOK w0 (NV k1 n1 s1 ra rb v1) 5 x dp) : NodeOK w0 (NV 7 n s r t (.slice (some ⟨g, o, none⟩) 1 c)) (45 :: x) (dp + 1) := by
  intro w wb y d m hb hW hdm hm hlen
  have hs0 := hb.size
  have hlt := hW.lt
  have hW2 := (hW.alloc (.cells #[ptr wb] 166)).alloc (.cells (N12 7 n s r t (.slice (some ⟨g, o, none⟩) 1 c)) 28)
  have kW2 : Kw w0.heap.size wb w ((w.alloc (.cells #[ptr wb] 166)).alloc (.cells (N12 7 n s r t (.slice (some ⟨g, o, none⟩) 1 c)) 28)) := ((Kw.refl _ _ _).alloc hs0 _).alloc (by simp; omega) _
  have hp2 : ((w.alloc (.cells #[ptr wb] 166)).alloc (.cells (N12 7 n s r t (.slice (some ⟨g, o, none⟩) 1 c)) 28)).heap[w.heap.size]? = some (.cells #[ptr wb] 166 (0, 0)) := by
    rw [Below.heap_alloc _ _ _ (by simp)]; exact blk_new _ _
  have hn2 : ((w.alloc (.cells #[ptr wb] 166)).alloc (.cells (N12 7 n s r t (.slice (some ⟨g, o, none⟩) 1 c)) 28)).heap[w.heap.size + 1]? = some (.cells (N12 7 n s r t (.slice (some ⟨g, o, none⟩) 1 c)) 28 (0, 0)) := by
    have := blk_new (w.alloc (.cells #[ptr wb] 166)) (.cells (N12 7 n s r t (.slice (some ⟨g, o, none⟩) 1 c)) 28)
    simpa using this
  have HD := deeper70 w0.heap.size wb w.heap.size (w.heap.size + 1) y x ⟨#[45]⟩ nul d m dp _ hW2 hdm (by omega) (by simp at hlen ⊢; have e1 : (⟨#[45]⟩ : ByteArray).size = 1 := rfl; have e2 : nul.size = 0 := rfl; omega) (by simp; omega) (fun w1 hW1 hk1 => by
    have hp1 := hk1.blk hp2 (by decide) (by omega)
    have hn1 := hk1.blk hn2 (by decide) (by omega)
    have hb1 := (hb.trans kW2.b).trans hk1.b
    exact clos70 w0.heap.size wb _ _ g o c 7 n s r t k1 n1 s1 ra rb v1 w1 hp1 hn1 hg (by omega) (by omega) (fun j x hx => by rw [hb1.cell (p := ⟨g, _, none⟩) hg]; exact hkid j x hx)
      (fun w' => WB w' w0.heap.size wb (y ++ (⟨#[45]⟩ : ByteArray).data.toList ++ x) (d + 1) (max (max m (d + 1)) (d + 1 + dp)))
      (hO w1.drew wb _ (d + 1) (max m (d + 1)) hb1.drew hW1.drew (by omega) (by omega) (by simp at hlen ⊢; omega)))
  have HDD : Hid (Calls Tryz.prog 141 #[ptr wb, .string ⟨#[45]⟩, .func (.func 142) #[] #[ptr w.heap.size, ptr (w.heap.size + 1)], .string nul] ((w.alloc (.cells #[ptr wb] 166)).alloc (.cells (N12 7 n s r t (.slice (some ⟨g, o, none⟩) 1 c)) 28)) fun e w' => e = .returned (.tuple #[]) ∧ WB w' w0.heap.size wb (y ++ (⟨#[45]⟩ : ByteArray).data.toList ++ x ++ nul.data.toList) d (max m (d + 1 + dp)) ∧ Kw w0.heap.size wb ((w.alloc (.cells #[ptr wb] 166)).alloc (.cells (N12 7 n s r t (.slice (some ⟨g, o, none⟩) 1 c)) 28)) w') := HD
  have hmf : ∀ (fn : Fn) (first cap : Array Value) (w : World), (Instr.makeFunc fn first cap).run Tryz.prog w = .ok (.func fn first cap) w := fun _ _ _ _ => rfl
  have HK : Hid (Kw w0.heap.size wb w ((w.alloc (.cells #[ptr wb] 166)).alloc (.cells (N12 7 n s r t (.slice (some ⟨g, o, none⟩) 1 c)) 28))) := kW2
  clear HD hO kW2 hW hW2 hp2 hn2 hb hkid
  go_enter Tryz.func103, Tryz.ntmps103
  go_wp2_with fail
  refine HDD.out.mono ?_
  rintro e w3 ⟨rfl, h3, k3⟩
  go_wp2_with fail
  go_end0
  refine ⟨rfl, ?_, HK.out.trans k3⟩
  rw [show d + (dp + 1) = d + 1 + dp from by omega]
  simpa using h3
end Go.Proofs.YtoaejcppfmjhdaaGreatDoor.fm
/- An operator with its operands is written. Conditions: the package variables as the program's text lays them; lengths below a million. -/
namespace Go.Proofs.YtoaejcppfmjhdaaGreatDoor.fm
open Go.RowKit
theorem opTxt_T {op : Nat} (h1 : 1 ≤ op) (h11 : op ≤ 11) : (opTxt op).data.toList = opT op ∧ (opTxt op).size ≤ 2 := by
  have hc : op = 1 ∨ op = 2 ∨ op = 3 ∨ op = 4 ∨ op = 5 ∨ op = 6 ∨ op = 7 ∨ op = 8 ∨ op = 9 ∨ op = 10 ∨ op = 11 := by omega
  rcases hc with rfl | rfl | rfl | rfl | rfl | rfl | rfl | rfl | rfl | rfl | rfl <;> exact ⟨rfl, by decide⟩
set_option maxHeartbeats 8000000 in
set_option maxRecDepth 100000 in
theorem node_two (w0 : World) (hE : EnvW w0) (op : Nat) (h1 : 1 ≤ op) (h11 : op ≤ 11) (g o c : Nat) (k1 n1 : Int) (s1 : ByteArray) (r1a r1b : Rf) (v1 : Value) (k2 n2 : Int) (s2 : ByteArray) (r2a r2b : Rf) (v2 : Value) (s : ByteArray) (r t : Rf) (xa xb : List UInt8) (da db : Nat) (hg : g < w0.heap.size)
    (hka : ∀ j x, (NV k1 n1 s1 r1a r1b v1).cells.toList[j]? = some x → w0.cell? ⟨g, o + j, none⟩ = some x) (hkb : ∀ j x, (NV k2 n2 s2 r2a r2b v2).cells.toList[j]? = some x → w0.cell? ⟨g, o + 12 + j, none⟩ = some x)
    (hOa : OpdOK w0 (NV k1 n1 s1 r1a r1b v1) (lev op) xa da) (hOb : OpdOK w0 (NV k2 n2 s2 r2a r2b v2) (lev op + 1) xb db) : NodeOK w0 (NV 8 op s r t (.slice (some ⟨g, o, none⟩) 2 c)) (xa ++ opT op ++ xb) (max da db) := by
  intro w wb y d m hb hW hdm hm hlen
  have hs0 := hb.size
  have hlt := hW.lt
  have hEw := hE.below hb hE.lt
  have hW2 := (hW.alloc (.cells #[ptr wb] 166)).alloc (.cells (N12 8 op s r t (.slice (some ⟨g, o, none⟩) 2 c)) 28)
  have kW2 : Kw w0.heap.size wb w ((w.alloc (.cells #[ptr wb] 166)).alloc (.cells (N12 8 op s r t (.slice (some ⟨g, o, none⟩) 2 c)) 28)) := ((Kw.refl _ _ _).alloc hs0 _).alloc (by simp; omega) _
  have hp2 : ((w.alloc (.cells #[ptr wb] 166)).alloc (.cells (N12 8 op s r t (.slice (some ⟨g, o, none⟩) 2 c)) 28)).heap[w.heap.size]? = some (.cells #[ptr wb] 166 (0, 0)) := by
    rw [Below.heap_alloc _ _ _ (by simp)]; exact blk_new _ _
  have hn2 : ((w.alloc (.cells #[ptr wb] 166)).alloc (.cells (N12 8 op s r t (.slice (some ⟨g, o, none⟩) 2 c)) 28)).heap[w.heap.size + 1]? = some (.cells (N12 8 op s r t (.slice (some ⟨g, o, none⟩) 2 c)) 28 (0, 0)) := by
    have := blk_new (w.alloc (.cells #[ptr wb] 166)) (.cells (N12 8 op s r t (.slice (some ⟨g, o, none⟩) 2 c)) 28)
    simpa using this
  have hE2 := hEw.below kW2.b hE.lt
  have hb2 := hb.trans kW2.b
  have hlv := opLv_lev h1 h11
  have hot := opTxt_T h1 h11
  have hl4 := lev_le op
  have hw1 : w.heap.size ≠ wb := by omega
  have hw2 : w.heap.size + 1 ≠ wb := by omega
  have hcell := (hE2.f.cell op (by omega)).2
  have hcell0 := (hEw.f.cell op (by omega)).2
  rw [show 2 * op + 1 = op * 2 + 1 from by omega, hlv] at hcell hcell0
  obtain ⟨⟨a0, a1, a2, a3, a4, a5, a6, a7, a8, a9, a10, a11⟩, af⟩ := cells12 hn2
  have hmf : ∀ (fn : Fn) (first cap : Array Value) (w : World), (Instr.makeFunc fn first cap).run Tryz.prog w = .ok (.func fn first cap) w := fun _ _ _ _ => rfl
  have i0 : (0 : Int) ≤ (op : Int) := by omega
  have i1 : (op : Int) < 12 := by omega
  have hl4' : ((lev op : Nat) : Int) ≤ 4 := by omega
  have p0 := (cells1 hp2).1
  have KC : Hid (∀ wx, Kw w0.heap.size wb ((w.alloc (.cells #[ptr wb] 166)).alloc (.cells (N12 8 op s r t (.slice (some ⟨g, o, none⟩) 2 c)) 28)) wx → ∀ i u, w0.cell? ⟨g, i, none⟩ = some u → wx.cell? ⟨g, i, none⟩ = some u) := fun wx hk i u hu => by rw [(hb2.trans hk.b).cell (p := ⟨g, i, none⟩) hg]; exact hu
  have KB : Hid (∀ wx, Kw w0.heap.size wb ((w.alloc (.cells #[ptr wb] 166)).alloc (.cells (N12 8 op s r t (.slice (some ⟨g, o, none⟩) 2 c)) 28)) wx → wx.heap[w.heap.size]? = some (.cells #[ptr wb] 166 (0, 0)) ∧ wx.heap[w.heap.size + 1]? = some (.cells (N12 8 op s r t (.slice (some ⟨g, o, none⟩) 2 c)) 28 (0, 0))) := fun wx hk => ⟨hk.blk hp2 (by decide) hw1, hk.blk hn2 (by decide) hw2⟩
  have KE : Hid (∀ wx, Kw w0.heap.size wb ((w.alloc (.cells #[ptr wb] 166)).alloc (.cells (N12 8 op s r t (.slice (some ⟨g, o, none⟩) 2 c)) 28)) wx → wx.cell? ⟨0, op * 2, none⟩ = some (.string (opTxt op))) := fun wx hk => by
    have := ((hE2.below hk.b hE.lt).f.cell op (by omega)).1
    rw [show op * 2 = 2 * op from by omega]; exact this
  have K7 : Hid (∀ wx, Kw w0.heap.size wb ((w.alloc (.cells #[ptr wb] 166)).alloc (.cells (N12 8 op s r t (.slice (some ⟨g, o, none⟩) 2 c)) 28)) wx → wx.cell? ⟨w.heap.size, 0, none⟩ = some (ptr wb) ∧ wx.cell? ⟨w.heap.size + 1, 11, none⟩ = some (.slice (some ⟨g, o, none⟩) 2 c) ∧ wx.cell? ⟨g, o, none⟩ = some (.int .i64 k1) ∧ wx.cell? ⟨g, o + 1, none⟩ = some (.int .i64 n1) ∧ wx.cell? ⟨g, o + 2, none⟩ = some (.string s1) ∧ wx.cell? ⟨g, o + 3, none⟩ = some (.int .i64 r1a.c) ∧ wx.cell? ⟨g, o + 4, none⟩ = some (.int .i64 r1a.r) ∧ wx.cell? ⟨g, o + 5, none⟩ = some (.bool r1a.fc) ∧ wx.cell? ⟨g, o + 6, none⟩ = some (.bool r1a.fr) ∧ wx.cell? ⟨g, o + 7, none⟩ = some (.int .i64 r1b.c) ∧ wx.cell? ⟨g, o + 8, none⟩ = some (.int .i64 r1b.r) ∧ wx.cell? ⟨g, o + 9, none⟩ = some (.bool r1b.fc) ∧ wx.cell? ⟨g, o + 10, none⟩ = some (.bool r1b.fr) ∧ wx.cell? ⟨g, o + 11, none⟩ = some (v1)) := fun wx hk =>
    ⟨(cells1 (KB.out wx hk).1).1, (cells12 (KB.out wx hk).2).1.2.2.2.2.2.2.2.2.2.2.2, KC.out wx hk _ _ (hka 0 _ rfl), KC.out wx hk _ _ (hka 1 _ rfl), KC.out wx hk _ _ (hka 2 _ rfl), KC.out wx hk _ _ (hka 3 _ rfl), KC.out wx hk _ _ (hka 4 _ rfl), KC.out wx hk _ _ (hka 5 _ rfl), KC.out wx hk _ _ (hka 6 _ rfl), KC.out wx hk _ _ (hka 7 _ rfl), KC.out wx hk _ _ (hka 8 _ rfl), KC.out wx hk _ _ (hka 9 _ rfl), KC.out wx hk _ _ (hka 10 _ rfl), KC.out wx hk _ _ (hka 11 _ rfl)⟩
  have K8 : Hid (∀ wx, Kw w0.heap.size wb ((w.alloc (.cells #[ptr wb] 166)).alloc (.cells (N12 8 op s r t (.slice (some ⟨g, o, none⟩) 2 c)) 28)) wx → wx.cell? ⟨w.heap.size, 0, none⟩ = some (ptr wb) ∧ wx.cell? ⟨w.heap.size + 1, 1, none⟩ = some (.int .i64 op) ∧ wx.cell? ⟨0, op * 2, none⟩ = some (.string (opTxt op))) := fun wx hk => ⟨(cells1 (KB.out wx hk).1).1, (cells12 (KB.out wx hk).2).1.2.1, KE.out wx hk⟩
  have K9 : Hid (∀ wx, Kw w0.heap.size wb ((w.alloc (.cells #[ptr wb] 166)).alloc (.cells (N12 8 op s r t (.slice (some ⟨g, o, none⟩) 2 c)) 28)) wx → wx.cell? ⟨w.heap.size, 0, none⟩ = some (ptr wb) ∧ wx.cell? ⟨w.heap.size + 1, 11, none⟩ = some (.slice (some ⟨g, o, none⟩) 2 c) ∧ wx.cell? ⟨g, o + 12, none⟩ = some (.int .i64 k2) ∧ wx.cell? ⟨g, o + 12 + 1, none⟩ = some (.int .i64 n2) ∧ wx.cell? ⟨g, o + 12 + 2, none⟩ = some (.string s2) ∧ wx.cell? ⟨g, o + 12 + 3, none⟩ = some (.int .i64 r2a.c) ∧ wx.cell? ⟨g, o + 12 + 4, none⟩ = some (.int .i64 r2a.r) ∧ wx.cell? ⟨g, o + 12 + 5, none⟩ = some (.bool r2a.fc) ∧ wx.cell? ⟨g, o + 12 + 6, none⟩ = some (.bool r2a.fr) ∧ wx.cell? ⟨g, o + 12 + 7, none⟩ = some (.int .i64 r2b.c) ∧ wx.cell? ⟨g, o + 12 + 8, none⟩ = some (.int .i64 r2b.r) ∧ wx.cell? ⟨g, o + 12 + 9, none⟩ = some (.bool r2b.fc) ∧ wx.cell? ⟨g, o + 12 + 10, none⟩ = some (.bool r2b.fr) ∧ wx.cell? ⟨g, o + 12 + 11, none⟩ = some (v2) ∧ wx.cell? ⟨g, o + 13, none⟩ = some (.int .i64 n2) ∧ wx.cell? ⟨g, o + 14, none⟩ = some (.string s2) ∧ wx.cell? ⟨g, o + 15, none⟩ = some (.int .i64 r2a.c) ∧ wx.cell? ⟨g, o + 16, none⟩ = some (.int .i64 r2a.r) ∧ wx.cell? ⟨g, o + 17, none⟩ = some (.bool r2a.fc) ∧ wx.cell? ⟨g, o + 18, none⟩ = some (.bool r2a.fr) ∧ wx.cell? ⟨g, o + 19, none⟩ = some (.int .i64 r2b.c) ∧ wx.cell? ⟨g, o + 20, none⟩ = some (.int .i64 r2b.r) ∧ wx.cell? ⟨g, o + 21, none⟩ = some (.bool r2b.fc) ∧ wx.cell? ⟨g, o + 22, none⟩ = some (.bool r2b.fr) ∧ wx.cell? ⟨g, o + 23, none⟩ = some (v2)) := fun wx hk =>
    ⟨(cells1 (KB.out wx hk).1).1, (cells12 (KB.out wx hk).2).1.2.2.2.2.2.2.2.2.2.2.2, KC.out wx hk _ _ (hkb 0 _ rfl), KC.out wx hk _ _ (hkb 1 _ rfl), KC.out wx hk _ _ (hkb 2 _ rfl), KC.out wx hk _ _ (hkb 3 _ rfl), KC.out wx hk _ _ (hkb 4 _ rfl), KC.out wx hk _ _ (hkb 5 _ rfl), KC.out wx hk _ _ (hkb 6 _ rfl), KC.out wx hk _ _ (hkb 7 _ rfl), KC.out wx hk _ _ (hkb 8 _ rfl), KC.out wx hk _ _ (hkb 9 _ rfl), KC.out wx hk _ _ (hkb 10 _ rfl), KC.out wx hk _ _ (hkb 11 _ rfl), KC.out wx hk _ _ (hkb 1 _ rfl), KC.out wx hk _ _ (hkb 2 _ rfl), KC.out wx hk _ _ (hkb 3 _ rfl), KC.out wx hk _ _ (hkb 4 _ rfl), KC.out wx hk _ _ (hkb 5 _ rfl), KC.out wx hk _ _ (hkb 6 _ rfl), KC.out wx hk _ _ (hkb 7 _ rfl), KC.out wx hk _ _ (hkb 8 _ rfl), KC.out wx hk _ _ (hkb 9 _ rfl), KC.out wx hk _ _ (hkb 10 _ rfl), KC.out wx hk _ _ (hkb 11 _ rfl)⟩
  have HA : Hid (∀ wx, Kw w0.heap.size wb ((w.alloc (.cells #[ptr wb] 166)).alloc (.cells (N12 8 op s r t (.slice (some ⟨g, o, none⟩) 2 c)) 28)) wx → WB wx w0.heap.size wb y d m → Calls Tryz.prog 143 #[ptr wb, NV k1 n1 s1 r1a r1b v1, .int .i64 ((lev op : Nat) : Int)] wx fun e w' => e = .returned (.tuple #[]) ∧ WB w' w0.heap.size wb (y ++ xa) d (max m (d + da)) ∧ Kw w0.heap.size wb ((w.alloc (.cells #[ptr wb] 166)).alloc (.cells (N12 8 op s r t (.slice (some ⟨g, o, none⟩) 2 c)) 28)) w') := fun wx hk hWx => by
    refine (hOa wx wb y d m (hb2.trans hk.b) hWx hdm (by omega) (by simp at hlen ⊢; omega)).mono ?_
    rintro e w' ⟨rfl, q1, q2⟩
    exact ⟨rfl, q1, hk.trans q2⟩
  have HO : Hid (∀ wx, Kw w0.heap.size wb ((w.alloc (.cells #[ptr wb] 166)).alloc (.cells (N12 8 op s r t (.slice (some ⟨g, o, none⟩) 2 c)) 28)) wx → WB wx w0.heap.size wb (y ++ xa) d (max m (d + da)) → Calls Tryz.prog 102 #[ptr wb, .string (opTxt op)] wx fun e w' => e = .returned (.tuple #[.int .i64 (opTxt op).size, .nilIface]) ∧ WB w' w0.heap.size wb (y ++ xa ++ opT op) d (max m (d + da)) ∧ Kw w0.heap.size wb ((w.alloc (.cells #[ptr wb] 166)).alloc (.cells (N12 8 op s r t (.slice (some ⟨g, o, none⟩) 2 c)) 28)) w') := fun wx hk hWx => by
    have hsx := (hb2.trans hk.b).size
    refine (write_any w0.heap.size wb _ d _ (opTxt op) wx hWx (by simp at hlen ⊢; omega) hsx).mono ?_
    rintro e w' ⟨rfl, q1, q2⟩
    rw [hot.1] at q1
    exact ⟨rfl, q1, hk.trans q2⟩
  have HBB : Hid (∀ wx, Kw w0.heap.size wb ((w.alloc (.cells #[ptr wb] 166)).alloc (.cells (N12 8 op s r t (.slice (some ⟨g, o, none⟩) 2 c)) 28)) wx → WB wx w0.heap.size wb (y ++ xa ++ opT op) d (max m (d + da)) → Calls Tryz.prog 143 #[ptr wb, NV k2 n2 s2 r2a r2b v2, .int .i64 (IntKind.i64.wrap (((lev op : Nat) : Int) + 1))] wx fun e w' => e = .returned (.tuple #[]) ∧ WB w' w0.heap.size wb (y ++ xa ++ opT op ++ xb) d (max (max m (d + da)) (d + db)) ∧ Kw w0.heap.size wb ((w.alloc (.cells #[ptr wb] 166)).alloc (.cells (N12 8 op s r t (.slice (some ⟨g, o, none⟩) 2 c)) 28)) w') := fun wx hk hWx => by
    rw [show IntKind.i64.wrap (((lev op : Nat) : Int) + 1) = ((lev op : Nat) : Int) + 1 from Go.IntWalk.i64_in _ (by omega)]
    have := hOb wx wb _ d _ (hb2.trans hk.b) hWx (by omega) (by omega) (by simp at hlen ⊢; omega)
    rw [show ((lev op + 1 : Nat) : Int) = ((lev op : Nat) : Int) + 1 from by omega] at this
    refine this.mono ?_
    rintro e w' ⟨rfl, q1, q2⟩
    exact ⟨rfl, q1, hk.trans q2⟩
  have HK : Hid (Kw w0.heap.size wb w ((w.alloc (.cells #[ptr wb] 166)).alloc (.cells (N12 8 op s r t (.slice (some ⟨g, o, none⟩) 2 c)) 28))) := kW2
  have hk0 : Kw w0.heap.size wb ((w.alloc (.cells #[ptr wb] 166)).alloc (.cells (N12 8 op s r t (.slice (some ⟨g, o, none⟩) 2 c)) 28)) ((w.alloc (.cells #[ptr wb] 166)).alloc (.cells (N12 8 op s r t (.slice (some ⟨g, o, none⟩) 2 c)) 28)).drew := (Kw.refl _ _ _).drew
  have HDR : Hid (∀ wx, Kw w0.heap.size wb ((w.alloc (.cells #[ptr wb] 166)).alloc (.cells (N12 8 op s r t (.slice (some ⟨g, o, none⟩) 2 c)) 28)) wx → Kw w0.heap.size wb ((w.alloc (.cells #[ptr wb] 166)).alloc (.cells (N12 8 op s r t (.slice (some ⟨g, o, none⟩) 2 c)) 28)) wx.drew) := fun wx h => h.drew
  have hWd := hW2.drew
  clear hE hEw hE2 hW hW2 hp2 hn2 hb hb2 hka hkb hOa hOb hot hlv kW2 hg hw1 hw2 KB KC KE
  go_enter Tryz.func103, Tryz.ntmps103
  go_wp2_with fail
  clear a0 a1 a2 a3 a4 a5 a6 a7 a8 a9 a10 a11 af p0 hcell hcell0
  generalize (w.alloc (.cells #[ptr wb] 166)).alloc _ = w2 at *
  go_region_held3 (fun wx => wx.cell? ⟨w.heap.size, 0, none⟩ = some (ptr wb) ∧ wx.cell? ⟨w.heap.size + 1, 11, none⟩ = some (.slice (some ⟨g, o, none⟩) 2 c) ∧ wx.cell? ⟨g, o, none⟩ = some (.int .i64 k1) ∧ wx.cell? ⟨g, o + 1, none⟩ = some (.int .i64 n1) ∧ wx.cell? ⟨g, o + 2, none⟩ = some (.string s1) ∧ wx.cell? ⟨g, o + 3, none⟩ = some (.int .i64 r1a.c) ∧ wx.cell? ⟨g, o + 4, none⟩ = some (.int .i64 r1a.r) ∧ wx.cell? ⟨g, o + 5, none⟩ = some (.bool r1a.fc) ∧ wx.cell? ⟨g, o + 6, none⟩ = some (.bool r1a.fr) ∧ wx.cell? ⟨g, o + 7, none⟩ = some (.int .i64 r1b.c) ∧ wx.cell? ⟨g, o + 8, none⟩ = some (.int .i64 r1b.r) ∧ wx.cell? ⟨g, o + 9, none⟩ = some (.bool r1b.fc) ∧ wx.cell? ⟨g, o + 10, none⟩ = some (.bool r1b.fr) ∧ wx.cell? ⟨g, o + 11, none⟩ = some (v1)) (first | exact K7.out _ hk0 | exact K7.out _ k4) (first | (go_at_call 143; refine (HA.out _ hk0 hWd).mono ?_; rintro e w4 ⟨rfl, h4, k4⟩))
  have k4d := HDR.out _ k4
  have h4d := h4.drew
  clear K7 HA hk0 hWd h4 k4
  go_wp2_with fail
  go_region_held3 (fun wx => wx.cell? ⟨w.heap.size, 0, none⟩ = some (ptr wb) ∧ wx.cell? ⟨w.heap.size + 1, 1, none⟩ = some (.int .i64 op) ∧ wx.cell? ⟨0, op * 2, none⟩ = some (.string (opTxt op))) (first | exact K8.out _ k4d | exact K8.out _ k5) (first | (go_at_call 102; with_reducible refine (HO.out _ k4d h4d).mono ?_; rintro e w5 ⟨rfl, h5, k5⟩))
  have k5d := HDR.out _ k5
  have h5d := h5.drew
  clear K8 HO k4d h4d h5 k5
  go_wp2_with fail
  go_region_held3 (fun wx => wx.cell? ⟨w.heap.size, 0, none⟩ = some (ptr wb) ∧ wx.cell? ⟨w.heap.size + 1, 11, none⟩ = some (.slice (some ⟨g, o, none⟩) 2 c) ∧ wx.cell? ⟨g, o + 12, none⟩ = some (.int .i64 k2) ∧ wx.cell? ⟨g, o + 12 + 1, none⟩ = some (.int .i64 n2) ∧ wx.cell? ⟨g, o + 12 + 2, none⟩ = some (.string s2) ∧ wx.cell? ⟨g, o + 12 + 3, none⟩ = some (.int .i64 r2a.c) ∧ wx.cell? ⟨g, o + 12 + 4, none⟩ = some (.int .i64 r2a.r) ∧ wx.cell? ⟨g, o + 12 + 5, none⟩ = some (.bool r2a.fc) ∧ wx.cell? ⟨g, o + 12 + 6, none⟩ = some (.bool r2a.fr) ∧ wx.cell? ⟨g, o + 12 + 7, none⟩ = some (.int .i64 r2b.c) ∧ wx.cell? ⟨g, o + 12 + 8, none⟩ = some (.int .i64 r2b.r) ∧ wx.cell? ⟨g, o + 12 + 9, none⟩ = some (.bool r2b.fc) ∧ wx.cell? ⟨g, o + 12 + 10, none⟩ = some (.bool r2b.fr) ∧ wx.cell? ⟨g, o + 12 + 11, none⟩ = some (v2) ∧ wx.cell? ⟨g, o + 13, none⟩ = some (.int .i64 n2) ∧ wx.cell? ⟨g, o + 14, none⟩ = some (.string s2) ∧ wx.cell? ⟨g, o + 15, none⟩ = some (.int .i64 r2a.c) ∧ wx.cell? ⟨g, o + 16, none⟩ = some (.int .i64 r2a.r) ∧ wx.cell? ⟨g, o + 17, none⟩ = some (.bool r2a.fc) ∧ wx.cell? ⟨g, o + 18, none⟩ = some (.bool r2a.fr) ∧ wx.cell? ⟨g, o + 19, none⟩ = some (.int .i64 r2b.c) ∧ wx.cell? ⟨g, o + 20, none⟩ = some (.int .i64 r2b.r) ∧ wx.cell? ⟨g, o + 21, none⟩ = some (.bool r2b.fc) ∧ wx.cell? ⟨g, o + 22, none⟩ = some (.bool r2b.fr) ∧ wx.cell? ⟨g, o + 23, none⟩ = some (v2)) (first | exact K9.out _ k5d | exact K9.out _ k6) (first | (go_at_call 143; with_reducible refine (HBB.out _ k5d h5d).mono ?_; rintro e w6 ⟨rfl, h6, k6⟩))
  go_wp2_with fail
  go_end0
  refine ⟨rfl, ?_, HK.out.trans k6⟩
  rw [show max m (d + max da db) = max (max m (d + da)) (d + db) from by omega]
  simpa using h6
end Go.Proofs.YtoaejcppfmjhdaaGreatDoor.fm
/- Arguments are written one behind the other. Conditions: lengths below a million. -/
namespace Go.Proofs.YtoaejcppfmjhdaaGreatDoor.fm
open Go.RowKit
theorem commas_app (a : List (List UInt8)) (x : List UInt8) : commas (a ++ [x]) = if a.length = 0 then x else commas a ++ 44 :: x := by
  cases a with
  | nil => rfl
  | cons y ys => rw [List.cons_append, commas_cons, commas_cons]; simp
theorem commas_le (a b : List (List UInt8)) : (commas a).length ≤ (commas (a ++ b)).length := by
  cases a with
  | nil => simp [commas]
  | cons y ys => rw [List.cons_append, commas_cons, commas_cons]; simp
theorem commas_take {xs : List (List UInt8)} {j : Nat} {x : List UInt8} (h : xs[j]? = some x) : commas (xs.take (j + 1)) = (if j = 0 then x else commas (xs.take j) ++ 44 :: x) ∧ (commas (xs.take (j + 1))).length ≤ (commas xs).length := by
  have hj := (List.getElem?_eq_some_iff.1 h).1
  refine ⟨?_, ?_⟩
  · rw [List.take_add_one, h]
    show commas (xs.take j ++ [x]) = _
    rw [commas_app, List.length_take, show min j xs.length = j from by omega]
  · have := commas_le (xs.take (j + 1)) (xs.drop (j + 1))
    rwa [List.take_append_drop] at this
theorem fold_take {ds : List Nat} {j d : Nat} (h : ds[j]? = some d) : (ds.take (j + 1)).foldr max 0 = max ((ds.take j).foldr max 0) d := by
  rw [List.take_add_one, h]
  exact foldr_snoc _ _
theorem fold_take_le (ds : List Nat) (j : Nat) : (ds.take j).foldr max 0 ≤ ds.foldr max 0 := by
  induction ds generalizing j with
  | nil => simp
  | cons a ds ih => cases j with
    | zero => simp
    | succ j => have := ih j; simp only [List.take_succ_cons, List.foldr_cons]; omega
set_option maxHeartbeats 4000000 in
set_option maxRecDepth 100000 in
theorem args_any (w0 : World) {P : Nat → Prop} {p : Option Addr} {q c : Nat} {us : List Value} {ts : List T} {xs : List (List UInt8)} {ds : List Nat} (hk : Kids w0 P p q c us) (hl : us.length = ts.length) (hs : ∀ (i : Nat) u t', us[i]? = some u → ts[i]? = some t' → Nd w0 P u t') (hx : xs.length = ts.length) (hd : ds.length = ts.length)
    (hN : ∀ (i : Nat) u x e, us[i]? = some u → xs[i]? = some x → ds[i]? = some e → NodeOK w0 u x e) (hq : q ≤ 9223372036854775807) (w : World) (wb : Nat) (y : List UInt8) (d m : Nat) (hb : Below w0.heap.size w0 w) (hW : WB w w0.heap.size wb y d m) (hdm : d ≤ m) (hm : m ≤ 500000 ∧ d + ds.foldr max 0 ≤ 500000) (hlen : y.length + (commas xs).length ≤ 1000000) :
    Calls Tryz.prog 145 #[ptr wb, .slice p q c] w fun e w' => e = .returned (.tuple #[]) ∧ WB w' w0.heap.size wb (y ++ commas xs) d (max m (d + ds.foldr max 0)) ∧ Kw w0.heap.size wb w w' := by
  have hqu : q = us.length := hk.1
  have HK : Hid (Kids w0 P p q c us) := hk
  have HL : Hid (us.length = ts.length) := hl
  have HS : Hid (∀ (i : Nat) u t', us[i]? = some u → ts[i]? = some t' → Nd w0 P u t') := hs
  have HN : Hid (∀ (i : Nat) u x e, us[i]? = some u → xs[i]? = some x → ds[i]? = some e → NodeOK w0 u x e) := hN
  have HX : Hid (xs.length = q ∧ ds.length = q) := ⟨by omega, by omega⟩
  have HB : Hid (Below w0.heap.size w0 w) := hb
  have HM : Hid ((m ≤ 500000 ∧ d + ds.foldr max 0 ≤ 500000) ∧ y.length + (commas xs).length ≤ 1000000) := ⟨hm, hlen⟩
  have hs0 := hb.size
  have h0 : WB w w0.heap.size wb (y ++ commas (xs.take 0)) d (max m (d + (ds.take 0).foldr max 0)) := by
    have : max m d = m := by omega
    simpa [commas, this] using hW
  clear hk hl hs hN hx hd hm hlen hW hb hqu
  go_enter Tryz.func145, Tryz.ntmps145
  go_wp2_with fail
  go_loopw [4, 5, 8] (fun _ _ i wr => ∃ j : Nat, i = .int .i64 j ∧ j ≤ q ∧ WB wr w0.heap.size wb (y ++ commas (xs.take j)) d (max m (d + (ds.take j).foldr max 0)) ∧ Kw w0.heap.size wb w wr) (fun _ _ i _ => q - (intOf i).toNat)
  case atStart => exact ⟨0, rfl, Nat.zero_le _, h0, Kw.refl _ _ _⟩
  case round =>
    clear h0
    obtain ⟨j, rfl, hj, hWr, hkr⟩ := hrel
    by_cases hlt : j < q
    · obtain ⟨g, o, u, t1, rfl, hg, hu, ht1, hc⟩ := kid_at HK.out HL.out HS.out j hlt
      have hNd := HS.out j u t1 hu ht1
      obtain ⟨xj, hxj⟩ : ∃ xj, xs[j]? = some xj := ⟨_, List.getElem?_eq_getElem (by have := HX.out.1; omega)⟩
      obtain ⟨dj, hdj⟩ : ∃ dj, ds[j]? = some dj := ⟨_, List.getElem?_eq_getElem (by have := HX.out.2; omega)⟩
      have hbr := HB.out.trans hkr.b
      have hsr := hbr.size
      have e1 : ∀ jj x, u.cells.toList[jj]? = some x → wr.cell? ⟨g, o + j * 12 + jj, none⟩ = some x := fun jj x hx => by rw [hbr.cell (p := ⟨g, _, none⟩) hg]; exact hc jj x hx
      have hct := commas_take hxj
      have hft := fold_take hdj
      have hfl := fold_take_le ds (j + 1)
      have hfl0 := fold_take_le ds j
      obtain ⟨X, hX⟩ : ∃ X, commas (xs.take j) = X := ⟨_, rfl⟩
      obtain ⟨Y, hY⟩ : ∃ Y, commas (xs.take (j + 1)) = Y := ⟨_, rfl⟩
      obtain ⟨F, hF⟩ : ∃ F, (ds.take j).foldr max 0 = F := ⟨_, rfl⟩
      obtain ⟨G, hG⟩ : ∃ G, (ds.take (j + 1)).foldr max 0 = G := ⟨_, rfl⟩
      have HRW : Hid ((commas (xs.take (j + 1)) = Y) ∧ (ds.take (j + 1)).foldr max 0 = G) := ⟨hY, hG⟩
      rw [hX, hY] at hct
      rw [hF, hG] at hft
      rw [hG] at hfl
      rw [hF] at hfl0
      rw [hX, hF] at hWr
      have hMM := HM.out
      have HNJ : Hid (∀ wx z, Kw w0.heap.size wb w wx → WB wx w0.heap.size wb z d (max m (d + F)) → z.length + xj.length ≤ 1000000 → Calls Tryz.prog 103 #[ptr wb, u] wx fun e w' => e = .returned (.tuple #[]) ∧ WB w' w0.heap.size wb (z ++ xj) d (max m (d + G)) ∧ Kw w0.heap.size wb w w') := fun wx z hkx hWx hz => by
        refine (HN.out j u _ _ hu hxj hdj wx wb z d _ (HB.out.trans hkx.b) hWx (by omega) (by omega) hz).mono ?_
        rintro e w' ⟨rfl, q1, q2⟩
        refine ⟨rfl, ?_, hkx.trans q2⟩
        rw [show max m (d + G) = max (max m (d + F)) (d + dj) from by omega]
        exact q1
      have HLB : Hid (y.length + Y.length ≤ 1000000) := by unfold Hid; omega
      have HCT : Hid (Y = if j = 0 then xj else X ++ 44 :: xj) := hct.1
      have HX0 : Hid (j = 0 → X = []) := fun e => by subst e; rw [← hX]; simp [commas]
      clear HN hct hft hfl hfl0 hMM hX hY hF hG hc
      cases hNd with
      | @mk k1 n1 s1 ra rb p1 m1 q1 us1 ts1 _ _ _ =>
      have hlt' : (j : Int) < (q : Int) := by omega
      have hj' : (0 : Int) ≤ (j : Int) := by omega
      have x0 := e1 0 _ rfl
      have x1 := e1 1 _ rfl
      have x2 := e1 2 _ rfl
      have x3 := e1 3 _ rfl
      have x4 := e1 4 _ rfl
      have x5 := e1 5 _ rfl
      have x6 := e1 6 _ rfl
      have x7 := e1 7 _ rfl
      have x8 := e1 8 _ rfl
      have x9 := e1 9 _ rfl
      have x10 := e1 10 _ rfl
      have x11 := e1 11 _ rfl
      simp only [Nat.add_zero] at x0
      have hWa := hWr.alloc (.cells (N12 k1 n1 s1 ra rb (.slice p1 m1 q1)) 28)
      have hka := hkr.alloc hsr (.cells (N12 k1 n1 s1 ra rb (.slice p1 m1 q1)) 28)
      have hnb := blk_new wr (.cells (N12 k1 n1 s1 ra rb (.slice p1 m1 q1)) 28)
      have hwl := hWr.lt
      obtain ⟨⟨a0, a1, a2, a3, a4, a5, a6, a7, a8, a9, a10, a11⟩, af⟩ := cells12 hnb
      by_cases hz : j = 0
      · subst hz
        have HE : Hid (X = [] ∧ Y = xj) := ⟨HX0.out rfl, by have := HCT.out; rwa [if_pos rfl] at this⟩
        clear HX0 HCT
        simp only [Nat.zero_mul, Nat.add_zero] at x0 x1 x2 x3 x4 x5 x6 x7 x8 x9 x10 x11
        go_wp2_with fail
        refine (HNJ.out _ _ hka hWa (by have := HLB.out; rw [HE.out.2] at this; rw [HE.out.1]; simp; omega)).mono ?_
        rintro e w4 ⟨rfl, h4, k4⟩
        go_wp2_with fail
        refine ⟨⟨0 + 1, by simp, hlt, ?_, k4⟩, by simp [intOf]; omega⟩
        rw [HRW.out.1, HRW.out.2, HE.out.2]
        rw [HE.out.1] at h4
        simpa using h4
      · have hp : (j : Int) > 0 := by omega
        have HZ : Hid (Y = X ++ 44 :: xj) := by have := HCT.out; rwa [if_neg hz] at this
        clear hz HCT HX0
        go_wp2_with fail
        have hsa := (HB.out.trans hka.b).size
        refine (write_any w0.heap.size wb _ d _ ⟨#[44]⟩ _ hWa (by have := HLB.out; rw [HZ.out] at this; simp at this ⊢; have e1 : (⟨#[44]⟩ : ByteArray).size = 1 := rfl; omega) hsa).mono ?_
        rintro e w3 ⟨rfl, h3, k3⟩
        have hn3 := k3.blk hnb (by decide) (by omega)
        clear a0 a1 a2 a3 a4 a5 a6 a7 a8 a9 a10 a11 af
        obtain ⟨⟨a0, a1, a2, a3, a4, a5, a6, a7, a8, a9, a10, a11⟩, af⟩ := cells12 hn3
        have hk3 := hka.trans k3
        go_wp2_with fail
        refine (HNJ.out _ _ hk3 h3 (by have := HLB.out; rw [HZ.out] at this; simp at this ⊢; omega)).mono ?_
        rintro e w4 ⟨rfl, h4, k4⟩
        go_wp2_with fail
        refine ⟨⟨j + 1, by simp, hlt, ?_, k4⟩, by simp [intOf]; omega⟩
        rw [HRW.out.1, HRW.out.2, HZ.out]
        simpa using h4
    · have hkn : j = q := by omega
      subst hkn
      have hxx := HX.out
      have t1 : xs.take j = xs := List.take_of_length_le (by omega)
      have t2 : ds.take j = ds := List.take_of_length_le (by omega)
      have HF : Hid (WB wr w0.heap.size wb (y ++ commas xs) d (max m (d + ds.foldr max 0))) := by rw [t1, t2] at hWr; exact hWr
      clear t1 t2 hWr
      go_wp2_with fail
      go_end0
      exact ⟨rfl, HF.out, hkr⟩
end Go.Proofs.YtoaejcppfmjhdaaGreatDoor.fm
/- Any node that can be written is written. Conditions: the package variables as the program's text lays them; lengths below a million. -/
namespace Go.Proofs.YtoaejcppfmjhdaaGreatDoor.fm
open Go.RowKit
theorem clos72 (wb pb nb : Nat) (k n : Int) (s : ByteArray) (r t : Rf) (p : Option Addr) (q c : Nat) (w : World) (hp : w.heap[pb]? = some (.cells #[ptr wb] 166 (0, 0))) (hn : w.heap[nb]? = some (.cells (N12 k n s r t (.slice p q c)) 28 (0, 0))) (Q : World → Prop)
    (h : Calls Tryz.prog 145 #[ptr wb, .slice p q c] w fun e w' => e = .returned (.tuple #[]) ∧ Q w') : Calls Tryz.prog 144 #[ptr pb, ptr nb] w fun e w' => e = .returned (.tuple #[]) ∧ Q w' := by
  obtain ⟨p0, p1⟩ := cells1 hp
  obtain ⟨⟨a0, a1, a2, a3, a4, a5, a6, a7, a8, a9, a10, a11⟩, af⟩ := cells12 hn
  have HH : Hid (Calls Tryz.prog 145 #[ptr wb, .slice p q c] w fun e w' => e = .returned (.tuple #[]) ∧ Q w') := h
  clear h
  go_enter Tryz.func144, Tryz.ntmps144
  go_wp2_with fail
  refine HH.out.mono ?_
  rintro e w1 ⟨rfl, hq⟩
  have HQ : Hid (Q w1) := hq
  clear hq
  go_wp2_with fail
  go_end0
  exact ⟨rfl, HQ.out⟩
set_option maxHeartbeats 4000000 in
set_option maxRecDepth 100000 in
theorem node_call (w0 : World) (name : ByteArray) (hnm : name.size ≤ 10) (n : Int) (r t : Rf) (p : Option Addr) (q c : Nat) (xs : List (List UInt8)) (D : Nat)
    (hA : ∀ (w : World) (wb : Nat) (y : List UInt8) (d m : Nat), Below w0.heap.size w0 w → WB w w0.heap.size wb y d m → d ≤ m → m ≤ 500000 ∧ d + D ≤ 500000 → y.length + (commas xs).length ≤ 1000000 → Calls Tryz.prog 145 #[ptr wb, .slice p q c] w fun e w' => e = .returned (.tuple #[]) ∧ WB w' w0.heap.size wb (y ++ commas xs) d (max m (d + D)) ∧ Kw w0.heap.size wb w w') :
    NodeOK w0 (NV 9 n name r t (.slice p q c)) (name.data.toList ++ 40 :: (commas xs ++ [41])) (D + 1) := by
  intro w wb y d m hb hW hdm hm hlen
  have hs0 := hb.size
  have hlt := hW.lt
  have hW2 := (hW.alloc (.cells #[ptr wb] 166)).alloc (.cells (N12 9 n name r t (.slice p q c)) 28)
  have kW2 : Kw w0.heap.size wb w ((w.alloc (.cells #[ptr wb] 166)).alloc (.cells (N12 9 n name r t (.slice p q c)) 28)) := ((Kw.refl _ _ _).alloc hs0 _).alloc (by simp; omega) _
  have hp2 : ((w.alloc (.cells #[ptr wb] 166)).alloc (.cells (N12 9 n name r t (.slice p q c)) 28)).heap[w.heap.size]? = some (.cells #[ptr wb] 166 (0, 0)) := by
    rw [Below.heap_alloc _ _ _ (by simp)]; exact blk_new _ _
  have hn2 : ((w.alloc (.cells #[ptr wb] 166)).alloc (.cells (N12 9 n name r t (.slice p q c)) 28)).heap[w.heap.size + 1]? = some (.cells (N12 9 n name r t (.slice p q c)) 28 (0, 0)) := by
    have := blk_new (w.alloc (.cells #[ptr wb] 166)) (.cells (N12 9 n name r t (.slice p q c)) 28)
    simpa using this
  have hd : (name ++ ⟨#[40]⟩ : ByteArray).data.toList = name.data.toList ++ [40] := by simp [ByteArray.data_append]
  have hz : (name ++ ⟨#[40]⟩ : ByteArray).size = name.size + 1 := by rw [ByteArray.size_append]; rfl
  have hne : name.data.toList.length = name.size := by simp
  simp only [List.length_append, List.length_cons, List.length_nil] at hlen
  have HD := deeper72 w0.heap.size wb w.heap.size (w.heap.size + 1) y (commas xs) (name ++ ⟨#[40]⟩) ⟨#[41]⟩ d m D _ hW2 hdm (by omega) (by have e2 : (⟨#[41]⟩ : ByteArray).size = 1 := rfl; omega) (by simp; omega) (fun w1 hW1 hk1 => by
    have hp1 := hk1.blk hp2 (by decide) (by omega)
    have hn1 := hk1.blk hn2 (by decide) (by omega)
    have hb1 := (hb.trans kW2.b).trans hk1.b
    exact clos72 wb _ _ 9 n name r t p q c w1 hp1 hn1
      (fun w' => WB w' w0.heap.size wb (y ++ (name ++ ⟨#[40]⟩ : ByteArray).data.toList ++ commas xs) (d + 1) (max (max m (d + 1)) (d + 1 + D)) ∧ Kw w0.heap.size wb w1 w')
      (hA w1 wb _ (d + 1) (max m (d + 1)) hb1 hW1 (by omega) (by omega) (by rw [hd]; simp only [List.length_append, List.length_cons, List.length_nil]; omega)))
  rw [hd] at HD
  have q1 : ¬ 9223372036854775807 < name.size + (⟨#[40]⟩ : ByteArray).size := by have e2 : (⟨#[40]⟩ : ByteArray).size = 1 := rfl; omega
  have q2 : ¬ 9223372036854775807 < name.size + 1 := by omega
  have HDD : Hid (Calls Tryz.prog 141 #[ptr wb, .string (name ++ ⟨#[40]⟩), .func (.func 144) #[] #[ptr w.heap.size, ptr (w.heap.size + 1)], .string ⟨#[41]⟩] ((w.alloc (.cells #[ptr wb] 166)).alloc (.cells (N12 9 n name r t (.slice p q c)) 28)) fun e w' => e = .returned (.tuple #[]) ∧ WB w' w0.heap.size wb (y ++ (name.data.toList ++ [40]) ++ commas xs ++ (⟨#[41]⟩ : ByteArray).data.toList) d (max m (d + 1 + D)) ∧ Kw w0.heap.size wb ((w.alloc (.cells #[ptr wb] 166)).alloc (.cells (N12 9 n name r t (.slice p q c)) 28)) w') := HD
  have hmf : ∀ (fn : Fn) (first cap : Array Value) (w : World), (Instr.makeFunc fn first cap).run Tryz.prog w = .ok (.func fn first cap) w := fun _ _ _ _ => rfl
  have HK : Hid (Kw w0.heap.size wb w ((w.alloc (.cells #[ptr wb] 166)).alloc (.cells (N12 9 n name r t (.slice p q c)) 28))) := kW2
  obtain ⟨⟨a0, a1, a2, a3, a4, a5, a6, a7, a8, a9, a10, a11⟩, af⟩ := cells12 hn2
  clear HD hA kW2 hW hW2 hp2 hn2 hb hd hz hne
  go_enter Tryz.func103, Tryz.ntmps103
  go_wp2_with fail
  refine HDD.out.mono ?_
  rintro e w3 ⟨rfl, h3, k3⟩
  go_wp2_with fail
  go_end0
  refine ⟨rfl, ?_, HK.out.trans k3⟩
  rw [show d + (D + 1) = d + 1 + D from by omega]
  simpa using h3
theorem ok_kid {k n : Int} {s : ByteArray} {r t : Rf} {ts : List T} (h : Ok (.nd k n s r t ts)) {i : Nat} {u : T} (hu : ts[i]? = some u) : Ok u := by
  cases h with
  | mk _ _ hs => exact hs i u hu
/-- Any node that can be written is written. -/
theorem node_any (w0 : World) (hE : EnvW w0) {t : T} {x : List UInt8} {dp : Nat} (h : W ink t x dp) : ∀ {P : Nat → Prop} {v : Value}, Nd w0 P v t → Ok t → NodeOK w0 v x dp := by
  induction h with
  | num h0 h1 => intro P v hN _; cases hN; exact node_leaf w0 hE (.num (K := ink) h0 h1) (by decide) (by decide) (by decide) _ _ _
  | text h => intro P v hN _; cases hN; exact node_leaf w0 hE (.text (K := ink) h) (by decide) (by decide) (by decide) _ _ _
  | truth h => intro P v hN _; cases hN; exact node_leaf w0 hE (.truth (K := ink) h) (by decide) (by decide) (by decide) _ _ _
  | bad h h6 => intro P v hN _; cases hN; exact node_leaf w0 hE (.bad (K := ink) h h6) (by decide) (by decide) (by decide) _ _ _
  | ref h => intro P v hN _; cases hN; exact node_leaf w0 hE (.ref (K := ink) h) (by decide) (by decide) (by decide) _ _ _
  | box h h2 => intro P v hN _; cases hN; exact node_leaf w0 hE (.box (K := ink) h h2) (by decide) (by decide) (by decide) _ _ _
  | @neg a x d ha hw ih =>
    intro P v hN hO
    cases hN with
    | @mk _ _ _ _ _ p m c us _ hk hl hs =>
      obtain rfl : m = 1 := by rw [hk.1, hl]; rfl
      obtain ⟨g, o, u, t1, rfl, hg, hu, ht1, hc⟩ := kid_at hk hl hs 0 (by omega)
      obtain rfl : a = t1 := by simpa using ht1
      have hNu := hs 0 u a hu ht1
      have hnode := ih hNu (ok_kid hO ht1)
      have hopd := opd_any w0 hE hNu hw hnode 5
      cases hNu with
      | mk _ _ _ => exact node_neg w0 g o c _ _ _ _ _ _ _ _ _ _ _ _ hg (fun j x hx => by have := hc j x hx; simpa using this) hopd
  | @two op a b x y d e h1 h11 ha hb hx hy ihx ihy =>
    intro P v hN hO
    cases hN with
    | @mk _ _ _ _ _ p m c us _ hk hl hs =>
      obtain rfl : m = 2 := by rw [hk.1, hl]; rfl
      obtain ⟨g, o, u, t1, rfl, hg, hu, ht1, hc⟩ := kid_at hk hl hs 0 (by omega)
      obtain ⟨g', o', u', t2, hp', hg', hu', ht2, hc'⟩ := kid_at hk hl hs 1 (by omega)
      obtain ⟨rfl, rfl⟩ : g = g' ∧ o = o' := by simpa using hp'
      obtain rfl : a = t1 := by simpa using ht1
      obtain rfl : b = t2 := by simpa using ht2
      have hNu := hs 0 u a hu ht1
      have hNv := hs 1 u' b hu' ht2
      have o1 := opd_any w0 hE hNu hx (ihx hNu (ok_kid hO ht1)) (lev op)
      have o2 := opd_any w0 hE hNv hy (ihy hNv (ok_kid hO ht2)) (lev op + 1)
      cases hNu with
      | mk _ _ _ =>
        cases hNv with
        | mk _ _ _ => exact node_two w0 hE op h1 h11 g o c _ _ _ _ _ _ _ _ _ _ _ _ _ _ _ _ _ _ _ hg (fun j x hx => by have := hc j x hx; simpa using this) (fun j x hx => by have := hc' j x hx; simpa using this) o1 o2
  | @call name ts xs ds hn hx hd h ih =>
    intro P v hN hO
    cases hN with
    | @mk _ _ _ _ _ p m c us _ hk hl hs =>
      have hm : m = ts.length := by rw [hk.1, hl]
      have hO2 : ts.length ≤ 9223372036854775807 := by cases hO with | mk _ h2 _ => exact h2
      have hnm : name.size ≤ 10 := by
        unfold isNm at hn
        rw [Bool.and_eq_true, Bool.and_eq_true, decide_eq_true_eq, decide_eq_true_eq] at hn
        exact hn.1.2
      exact node_call w0 name hnm 0 _ _ p m c xs _ (fun w wb y d m' q1 q2 q3 q4 q5 => args_any w0 hk hl hs hx hd (fun i u x e g1 g2 g3 => by
        have hi : i < ts.length := by rw [← hl]; exact (List.getElem?_eq_some_iff.1 g1).1
        have g4 : ts[i]? = some ts[i] := List.getElem?_eq_getElem hi
        exact ih i _ x e g4 g2 g3 (hs i u _ g1 g4) (ok_kid hO g4)) (by omega) w wb y d m' q1 q2 q3 q4 q5)
end Go.Proofs.YtoaejcppfmjhdaaGreatDoor.fm
/- A node that can be written, as a formula's text, and its levels. Conditions: the package variables as the program's text lays them; lengths below a million. -/
namespace Go.Proofs.YtoaejcppfmjhdaaGreatDoor.fm
open Go.RowKit
set_option maxHeartbeats 4000000 in
set_option maxRecDepth 100000 in
theorem write_formula (w0 : World) (hE : EnvW w0) {P : Nat → Prop} {k n : Int} {s : ByteArray} {r t : Rf} {p : Option Addr} {q c : Nat} {T0 : T} {x : List UInt8} {dp : Nat} (hW : W ink T0 x dp) (hN : Nd w0 P (NV k n s r t (.slice p q c)) T0) (hO : Ok T0) (hd : dp ≤ 500000) (hx : x.length ≤ 900000) :
    Calls Tryz.prog 71 #[NV k n s r t (.slice p q c)] w0 fun e w' => e = .returned (.tuple #[.string ⟨(61 :: x).toArray⟩, .int .i64 (dp : Nat)]) ∧ Below w0.heap.size w0 w' := by
  have hnode := node_any w0 hE hW hN hO
  clear hW hN hO hE
  have hb0 : Below w0.heap.size w0 (w0.alloc (.cells (N12 k n s r t (.slice p q c)) 28)) := (Below.refl _ _).alloc (Nat.le_refl _) _
  have hwb : ((w0.alloc (.cells (N12 k n s r t (.slice p q c)) 28)).alloc (.cells #[.pointer none, .slice none 0 0, .int .i64 0, .int .i64 0] 143)).heap[w0.heap.size + 1]? = some (.cells #[.pointer none, .slice none 0 0, .int .i64 0, .int .i64 0] 143 (0, 0)) := by
    have := blk_new (w0.alloc (.cells (N12 k n s r t (.slice p q c)) 28)) (.cells #[.pointer none, .slice none 0 0, .int .i64 0, .int .i64 0] 143)
    simpa using this
  have hW0 : WB ((w0.alloc (.cells (N12 k n s r t (.slice p q c)) 28)).alloc (.cells #[.pointer none, .slice none 0 0, .int .i64 0, .int .i64 0] 143)) w0.heap.size (w0.heap.size + 1) [] 0 0 :=
    ⟨by omega, _, _, .inl rfl, hwb, World.ownsRowF_nil _ _ _ _⟩
  have hB0 : Below w0.heap.size w0 ((w0.alloc (.cells (N12 k n s r t (.slice p q c)) 28)).alloc (.cells #[.pointer none, .slice none 0 0, .int .i64 0, .int .i64 0] 143)) := hb0.alloc (by simp) _
  have hn0 : ((w0.alloc (.cells (N12 k n s r t (.slice p q c)) 28)).alloc (.cells #[.pointer none, .slice none 0 0, .int .i64 0, .int .i64 0] 143)).heap[w0.heap.size]? = some (.cells (N12 k n s r t (.slice p q c)) 28 (0, 0)) := by
    rw [Below.heap_alloc _ _ _ (by simp)]; exact blk_new _ _
  have HW1 := write_any w0.heap.size (w0.heap.size + 1) [] 0 0 ⟨#[61]⟩ _ hW0 (by decide) (by simp; omega)
  clear hb0 hwb hW0
  go_enter Tryz.func71, Tryz.ntmps71
  go_wp2_with fail
  refine HW1.mono ?_
  clear HW1
  rintro e w2 ⟨rfl, h2, k2⟩
  have hn2 := k2.blk hn0 (by decide) (by omega)
  have hB2 := hB0.trans k2.b
  obtain ⟨⟨a0, a1, a2, a3, a4, a5, a6, a7, a8, a9, a10, a11⟩, af⟩ := cells12 hn2
  have HC := hnode w2 (w0.heap.size + 1) _ 0 0 hB2 h2 (by omega) (by omega) (by simp; omega)
  clear hnode hn0 hB0
  go_wp2_with fail
  refine HC.mono ?_
  clear HC
  rintro e w3 ⟨rfl, h3, k3⟩
  have hB3 := hB2.trans k3.b
  rw [show max 0 (0 + dp) = dp from by omega, show ([] ++ (⟨#[61]⟩ : ByteArray).data.toList ++ x) = 61 :: x from rfl] at h3
  clear a0 a1 a2 a3 a4 a5 a6 a7 a8 a9 a10 a11 af hn2 h2 k2 k3 hB2
  have h3d := h3.drew
  have c3 := h3d.cells.1.2
  have HS : Hid (Calls Tryz.prog 104 #[ptr (w0.heap.size + 1)] w3.drew fun e w' => e = .returned (.string ⟨(61 :: x).toArray⟩) ∧ w'.heap[w0.heap.size + 1]? = w3.drew.heap[w0.heap.size + 1]? ∧ Below w0.heap.size w3.drew w') := string_any _ _ _ _ _ _ h3d (by simp)
  have KC : Hid (∀ wx : World, wx.heap[w0.heap.size + 1]? = w3.drew.heap[w0.heap.size + 1]? → wx.cell? ⟨w0.heap.size + 1, 3, none⟩ = some (.int .i64 (dp : Nat))) := fun wx hx => by
    rw [World.cell?_of_block hx]; exact c3
  have HB3 : Hid (Below w0.heap.size w0 w3.drew) := hB3.drew
  obtain ⟨Z, hZ⟩ : ∃ Z : ByteArray, ⟨(61 :: x).toArray⟩ = Z := ⟨_, rfl⟩
  rw [hZ] at HS
  have HZ : Hid (⟨(61 :: x).toArray⟩ = Z) := hZ
  clear hZ h3 h3d hB3
  go_wp2_with fail
  go_region_held3 (fun wx => wx.cell? ⟨w0.heap.size + 1, 3, none⟩ = some (.int .i64 (dp : Nat))) (first | exact KC.out _ rfl | exact KC.out _ q4) (first | (go_at_call 104; with_reducible refine HS.out.mono ?_; rintro e w4 ⟨rfl, q4, b4⟩))
  all_goals
    go_wp2_with fail
    go_ret2
    exact ⟨by rw [HZ.out]; rfl, HB3.out.trans b4⟩
end Go.Proofs.YtoaejcppfmjhdaaGreatDoor.fm
/- Print: a node's text, or what is wrong with it. Conditions: the package variables as the program's text lays them; numbers of 64 bits, lists of children below 2^47. -/
namespace Go.Proofs.YtoaejcppfmjhdaaGreatDoor.fm
open Go.RowKit
theorem commas_len : ∀ (ts : List T) (xs : List (List UInt8)), xs.length = ts.length → (∀ (i : Nat) t x, ts[i]? = some t → xs[i]? = some x → x.length + 2 ≤ 500 * t.cnt) → (xs.flatMap (fun y => 44 :: y)).length ≤ 500 * cntL ts
  | [], [], _, _ => by simp
  | [], _ :: _, h, _ => by simp at h
  | _ :: _, [], h, _ => by simp at h
  | t :: ts, x :: xs, hl, h => by
    have h0 := h 0 t x (by simp) (by simp)
    have h1 := commas_len ts xs (by simpa using hl) (fun i t x a b => h (i + 1) t x (by simpa using a) (by simpa using b))
    simp only [List.flatMap_cons, List.length_append, List.length_cons, cntL]
    omega
theorem commas_flat (xs : List (List UInt8)) : (commas xs).length ≤ (xs.flatMap (fun y => 44 :: y)).length := by
  cases xs with
  | nil => simp [commas]
  | cons x xs => rw [commas_cons]; simp
theorem piece_le : ∀ (xs : List (List UInt8)) (i : Nat) (x : List UInt8), xs[i]? = some x → x.length ≤ (commas xs).length
  | [], i, x, h => by simp at h
  | y :: ys, i, x, h => by
    rw [commas_cons]
    cases i with
    | zero => simp at h; subst h; simp
    | succ i =>
      have h1 := piece_le ys i x (by simpa using h)
      have h2 := commas_flat ys
      simp only [List.length_append]; omega
theorem fold_le (ds : List Nat) (N : Nat) (h : ∀ (i : Nat) d, ds[i]? = some d → d ≤ N) : ds.foldr max 0 ≤ N := by
  induction ds with
  | nil => simp
  | cons a ds ih =>
    have h0 := h 0 a (by simp)
    have h1 := ih (fun i d hd => h (i + 1) d (by simpa using hd))
    simp only [List.foldr_cons]; omega
theorem len_le {t : T} {x : List UInt8} {dp : Nat} (h : W ink t x dp) : x.length + 2 ≤ 500 * t.cnt ∧ dp ≤ x.length := by
  induction h with
  | @num n h0 h1 =>
    have h2 : (Lib.itoa n).length ≤ 20 := by first | exact itoa_len n (by omega) h1 | exact Lib.itoa_len n (by omega) h1
    have h3 : (ink.num n).length = (Lib.itoa n).length := rfl
    simp only [T.cnt, cntL]; omega
  | @text s hs =>
    have h1 := dbl_le s.data.toList
    have h2 : s.data.toList.length = s.size := by simp
    simp only [T.cnt, cntL, List.length_cons, List.length_append, List.length_nil]; omega
  | @truth n h => rcases h with rfl | rfl <;> simp [T.cnt, cntL, truT]
  | @bad n h h6 =>
    have hc : n = 1 ∨ n = 2 ∨ n = 3 ∨ n = 4 ∨ n = 5 ∨ n = 6 := by omega
    rcases hc with rfl | rfl | rfl | rfl | rfl | rfl <;> simp [T.cnt, cntL, badT]
  | @ref r h =>
    have h1 := ref_size r h
    have h2 : (⟨(ink.ref r).toArray⟩ : ByteArray).size = (ink.ref r).length := by show (ink.ref r).toArray.size = _; simp
    simp only [T.cnt, cntL]; omega
  | @box r t h h2 =>
    have h1 := ref_size r h
    have h3 := ref_size t h2
    have h4 : (⟨(ink.ref r).toArray⟩ : ByteArray).size = (ink.ref r).length := by show (ink.ref r).toArray.size = _; simp
    have h5 : (⟨(ink.ref t).toArray⟩ : ByteArray).size = (ink.ref t).length := by show (ink.ref t).toArray.size = _; simp
    simp only [T.cnt, cntL, List.length_append, List.length_cons]; omega
  | @neg a x d ha h ih =>
    have h1 := brk_len 5 a x
    have h2 : brd 5 a d ≤ (brk 5 a x).length := by unfold brk brd; split <;> (try simp only [List.length_cons, List.length_append, List.length_nil]) <;> omega
    simp only [T.cnt, cntL, List.length_cons]; omega
  | @two op a b x y d e h1 h11 ha hb hx hy ihx ihy =>
    have q1 := brk_len (lev op) a x
    have q2 := brk_len (lev op + 1) b y
    have q3 : brd (lev op) a d ≤ (brk (lev op) a x).length := by unfold brk brd; split <;> (try simp only [List.length_cons, List.length_append, List.length_nil]) <;> omega
    have q4 : brd (lev op + 1) b e ≤ (brk (lev op + 1) b y).length := by unfold brk brd; split <;> (try simp only [List.length_cons, List.length_append, List.length_nil]) <;> omega
    have q5 := (opTxt_T h1 h11)
    have q6 : (opT op).length ≤ 2 := by rw [← q5.1]; have := q5.2; simpa using this
    simp only [T.cnt, cntL, List.length_append]; omega
  | @call name ts xs ds hn hx hd h ih =>
    have hnm : name.size ≤ 10 := by
      unfold isNm at hn
      rw [Bool.and_eq_true, Bool.and_eq_true, decide_eq_true_eq, decide_eq_true_eq] at hn
      exact hn.1.2
    have h0 : name.data.toList.length = name.size := by simp
    have hds : ∀ (i : Nat) t x, ts[i]? = some t → xs[i]? = some x → ∃ e, ds[i]? = some e := fun i t x a _ => ⟨_, List.getElem?_eq_getElem (by rw [hd]; exact (List.getElem?_eq_some_iff.1 a).1)⟩
    have h1 := commas_len ts xs hx (fun i t x a b => by obtain ⟨e, he⟩ := hds i t x a b; exact (ih i t x e a b he).1)
    have h2 := commas_flat xs
    have h3 := fold_le ds (commas xs).length (fun i e he => by
      have hi := (List.getElem?_eq_some_iff.1 he).1
      have a : ts[i]? = some ts[i] := List.getElem?_eq_getElem (by omega)
      have b : xs[i]? = some xs[i] := List.getElem?_eq_getElem (by omega)
      have h4 := (ih i _ _ e a b he).2
      have h5 := piece_le xs i _ b
      omega)
    rw [cnt_eq]
    simp only [List.length_append, List.length_cons, List.length_nil]; omega
set_option maxHeartbeats 4000000 in
set_option maxRecDepth 100000 in
theorem isExpr_any {w : World} {P : Nat → Prop} {k n : Int} {s : ByteArray} {r t : Rf} {p : Option Addr} {q c : Nat} {T0 : T} (h : Nd w P (NV k n s r t (.slice p q c)) T0) (hO : Ok T0) (w1 : World) (hb : Below w.heap.size w w1) :
    Calls Tryz.prog 70 #[NV k n s r t (.slice p q c)] w1 fun e w' => ∃ b, e = .returned (.bool b) ∧ (b = true ↔ k ≠ 6 ∧ Wf T0) ∧ Below w1.heap.size w1 w' := by
  have hS0 := OB.start hb (N12 k n s r t (.slice p q c))
  obtain ⟨⟨a0, a1, a2, a3, a4, a5, a6, a7, a8, a9, a10, a11⟩, af⟩ := cells12 hS0.a
  have HC := isNode_any h hO _ hS0.below
  clear h hO
  by_cases h6 : k = 6
  · subst h6
    clear HC
    go_enter Tryz.func70, Tryz.ntmps70
    go_wp2_with fail
    go_ret
    exact ⟨_, rfl, by simp, hS0.below1⟩
  · have H6 : Hid (¬ k = 6) := h6
    go_enter Tryz.func70, Tryz.ntmps70
    go_wp2_with fail
    refine HC.mono ?_
    rintro e w2 ⟨b, rfl, hbw, hb2⟩
    have HB : Hid (b = true ↔ Wf T0) := hbw
    clear hbw
    go_wp2_with fail
    go_ret
    refine ⟨_, rfl, ?_, (hS0.next hb2).below1⟩
    rw [Bool.and_eq_true, HB.out]
    simp
end Go.Proofs.YtoaejcppfmjhdaaGreatDoor.fm
/- Print: a node's text, or what is wrong with it. Conditions: the package variables as the program's text lays them; numbers of 64 bits, lists of children below 2^47. -/
namespace Go.Proofs.YtoaejcppfmjhdaaGreatDoor.fm
open Go.RowKit
def prV (x : List UInt8) (dp : Nat) : Value := if x.length + 1 ≤ 200 ∧ dp ≤ 30 then .tuple #[.string ⟨(61 :: x).toArray⟩, .nilIface] else .tuple #[.string nul, .iface 62 (.int .i64 4)]
set_option maxHeartbeats 4000000 in
set_option maxRecDepth 100000 in
theorem print_ok (w0 : World) (hE : EnvW w0) {P : Nat → Prop} (hP : ∀ b, P b → b < w0.heap.size) {k n : Int} {s : ByteArray} {r t : Rf} {p : Option Addr} {q c : Nat} {T0 : T} {x : List UInt8} {dp : Nat} (hW : W ink T0 x dp) (hN : Nd w0 P (NV k n s r t (.slice p q c)) T0) (hO : Ok T0) (h6 : k ≠ 6) (hc : T0.cnt ≤ 200) :
    Calls Tryz.prog 41 #[NV k n s r t (.slice p q c)] w0 fun e w' => e = .returned (prV x dp) ∧ Below w0.heap.size w0 w' := by
  have hS0 := OB.start (Below.refl w0.heap.size w0) (N12 k n s r t (.slice p q c))
  have hlen := len_le hW
  have H1 := count_any hN hO.bd 200 (by omega) _ hS0.below
  rw [show min T0.cnt (200 + 1) = T0.cnt from by omega] at H1
  have H2 : Hid (∀ w1, Below w0.heap.size w0 w1 → Calls Tryz.prog 70 #[NV k n s r t (.slice p q c)] w1 fun e w' => e = .returned (.bool true) ∧ Below w1.heap.size w1 w') := fun w1 hb => by
    refine (isExpr_any hN hO w1 hb).mono ?_
    rintro e w' ⟨b, rfl, hb1, hb2⟩
    rw [hb1.2 ⟨h6, _, _, hW⟩]
    exact ⟨rfl, hb2⟩
  have H3 : Hid (∀ w1, Below w0.heap.size w0 w1 → Calls Tryz.prog 71 #[NV k n s r t (.slice p q c)] w1 fun e w' => e = .returned (.tuple #[.string ⟨(61 :: x).toArray⟩, .int .i64 (dp : Nat)]) ∧ Below w1.heap.size w1 w') := fun w1 hb =>
    write_formula w1 (hE.next hb) hW (hN.mono (fun b hb' => hb.block b (hP b hb')) (fun _ h => h)) hO (by omega) (by omega)
  have hcc : ¬ ((T0.cnt : Nat) : Int) > 200 := by omega
  have hsz : (⟨(61 :: x).toArray⟩ : ByteArray).size = x.length + 1 := by show (61 :: x).toArray.size = _; simp
  obtain ⟨Z, hZ⟩ : ∃ Z : ByteArray, ⟨(61 :: x).toArray⟩ = Z := ⟨_, rfl⟩
  have HV : Hid (prV x dp = if x.length + 1 ≤ 200 ∧ dp ≤ 30 then .tuple #[.string Z, .nilIface] else .tuple #[.string nul, .iface 62 (.int .i64 4)]) := by unfold Hid prV; rw [hZ]
  rw [hZ] at H3 hsz
  have HSZ : Hid (Z.size = x.length + 1) := hsz
  obtain ⟨V, hV⟩ : ∃ V, prV x dp = V := ⟨_, rfl⟩
  rw [hV] at HV ⊢
  clear hZ hV hsz hW hN hO hE hP h6 hc hlen
  obtain ⟨⟨a0, a1, a2, a3, a4, a5, a6, a7, a8, a9, a10, a11⟩, af⟩ := cells12 hS0.a
  go_enter Tryz.func41, Tryz.ntmps41
  go_wp2_with fail
  refine H1.mono ?_
  rintro e w1 ⟨rfl, hb1⟩
  have hS1 := hS0.next hb1
  clear a0 a1 a2 a3 a4 a5 a6 a7 a8 a9 a10 a11 af hS0 hb1 H1
  obtain ⟨⟨a0, a1, a2, a3, a4, a5, a6, a7, a8, a9, a10, a11⟩, af⟩ := cells12 hS1.a
  go_wp2_with fail
  refine (H2.out _ hS1.below).mono ?_
  rintro e w2 ⟨rfl, hb2⟩
  have hS2 := hS1.next hb2
  clear a0 a1 a2 a3 a4 a5 a6 a7 a8 a9 a10 a11 af hS1 hb2 H2
  obtain ⟨⟨a0, a1, a2, a3, a4, a5, a6, a7, a8, a9, a10, a11⟩, af⟩ := cells12 hS2.a
  go_wp2_with fail
  refine (H3.out _ hS2.below).mono ?_
  rintro e w3 ⟨rfl, hb3⟩
  have hS3 := hS2.next hb3
  clear a0 a1 a2 a3 a4 a5 a6 a7 a8 a9 a10 a11 af hS2 hb3 H3
  by_cases g1 : (200 : Int) < (Z.size : Int)
  · have HG : Hid (V = .tuple #[.string nul, .iface 62 (.int .i64 4)]) := by unfold Hid; rw [HV.out, if_neg (by have := HSZ.out; omega)]
    clear HV
    go_wp2_with fail
    go_ret2
    exact ⟨by rw [HG.out]; rfl, hS3.below⟩
  · by_cases g2 : (30 : Int) < (dp : Int)
    · have HG : Hid (V = .tuple #[.string nul, .iface 62 (.int .i64 4)]) := by unfold Hid; rw [HV.out, if_neg (by omega)]
      clear HV
      go_wp2_with fail
      go_ret2
      exact ⟨by rw [HG.out]; rfl, hS3.below⟩
    · have HG : Hid (V = .tuple #[.string Z, .nilIface]) := by unfold Hid; rw [HV.out, if_pos (by have := HSZ.out; omega)]
      clear HV
      go_wp2_with fail
      go_ret2
      exact ⟨by rw [HG.out]; rfl, hS3.below⟩
set_option maxHeartbeats 4000000 in
set_option maxRecDepth 100000 in
theorem print_err (w0 : World) {P : Nat → Prop} {k n : Int} {s : ByteArray} {r t : Rf} {p : Option Addr} {q c : Nat} {T0 : T} (hN : Nd w0 P (NV k n s r t (.slice p q c)) T0) (hO : Ok T0) (h : ¬ T0.cnt ≤ 200 ∨ ¬ (k ≠ 6 ∧ Wf T0)) :
    Calls Tryz.prog 41 #[NV k n s r t (.slice p q c)] w0 fun e w' => (∃ a : Int, e = .returned (.tuple #[.string nul, .iface 62 (.int .i64 a)])) ∧ Below w0.heap.size w0 w' := by
  have hS0 := OB.start (Below.refl w0.heap.size w0) (N12 k n s r t (.slice p q c))
  have H1 := count_any hN hO.bd 200 (by omega) _ hS0.below
  have H2 : Hid (∀ w1, Below w0.heap.size w0 w1 → Calls Tryz.prog 70 #[NV k n s r t (.slice p q c)] w1 fun e w' => ∃ b, e = .returned (.bool b) ∧ (b = true ↔ k ≠ 6 ∧ Wf T0) ∧ Below w1.heap.size w1 w') := fun w1 hb => isExpr_any hN hO w1 hb
  have HH : Hid (¬ T0.cnt ≤ 200 ∨ ¬ (k ≠ 6 ∧ Wf T0)) := h
  obtain ⟨C, hC⟩ : ∃ C : Nat, min T0.cnt (200 + 1) = C := ⟨_, rfl⟩
  have HC : Hid (min T0.cnt (200 + 1) = C) := hC
  rw [hC] at H1
  clear h hN hO hC
  obtain ⟨⟨a0, a1, a2, a3, a4, a5, a6, a7, a8, a9, a10, a11⟩, af⟩ := cells12 hS0.a
  go_enter Tryz.func41, Tryz.ntmps41
  go_wp2_with fail
  refine H1.mono ?_
  rintro e w1 ⟨rfl, hb1⟩
  have hS1 := hS0.next hb1
  clear a0 a1 a2 a3 a4 a5 a6 a7 a8 a9 a10 a11 af hS0 hb1 H1
  obtain ⟨⟨a0, a1, a2, a3, a4, a5, a6, a7, a8, a9, a10, a11⟩, af⟩ := cells12 hS1.a
  by_cases g : (200 : Int) < (C : Int)
  · go_wp2_with fail
    go_ret2
    exact ⟨⟨_, rfl⟩, hS1.below⟩
  · have HF : Hid (¬ (k ≠ 6 ∧ Wf T0)) := by
      unfold Hid
      rcases HH.out with h | h
      · have := HC.out; omega
      · exact h
    go_wp2_with fail
    refine (H2.out _ hS1.below).mono ?_
    rintro e w2 ⟨b, rfl, hb, hb2⟩
    have hS2 := hS1.next hb2
    have hbf : b = false := by
      cases b with
      | false => rfl
      | true => exact absurd (hb.1 rfl) HF.out
    subst hbf
    clear hb
    go_wp2_with fail
    go_ret2
    exact ⟨⟨_, rfl⟩, hS2.below⟩
end Go.Proofs.YtoaejcppfmjhdaaGreatDoor.fm
/- Package eval: Eval as a whole. Conditions: the package variables as the program's text lays them; of the rest as each theorem says. -/
namespace Go.Proofs.YtoaejcppfmjhdaaGreatDoor.fm
open Go.RowKit
theorem nd_kd {w : World} {P : Nat → Prop} {V : Value} {T0 : T} (h : Nd w P V T0) (k n : Int) (s : ByteArray) (r t : Rf) (v : Value) (hv : V = NV k n s r t v) : T0.kd = k := by
  cases h with
  | @mk k' n' s' r' t' p' m' c' us ts hk hl hs =>
    have e : (NV k' n' s' r' t' (.slice p' m' c')).cells.toList[0]? = (NV k n s r t v).cells.toList[0]? := by rw [hv]
    have e2 : (some (Value.int .i64 k') : Option Value) = some (.int .i64 k) := e
    injection e2 with e3
    injection e3
def Ckd (t : T) : Prop := ∃ x dp, W ink t x dp ∧ t.kd ≠ 6 ∧ t.cnt ≤ 200 ∧ x.length + 1 ≤ 200 ∧ dp ≤ 30
set_option maxRecDepth 100000 in
set_option maxHeartbeats 4000000 in
theorem check_yes (w : World) (hE : EnvW w) {P : Nat → Prop} (hP : ∀ b, P b → b < w.heap.size) {k n : Int} {s : ByteArray} {r t : Rf} {p : Option Addr} {q c : Nat} {T0 : T} (hN : Nd w P (NV k n s r t (.slice p q c)) T0) (hO : Ok T0) (h : Ckd T0) :
    Calls Tryz.prog 27 #[NV k n s r t (.slice p q c)] w fun e w' => e = .returned .nilIface ∧ Below w.heap.size w w' := by
  obtain ⟨x, dp, hw, h6, hc, hl, hd⟩ := h
  have hS := OB.start (Below.refl w.heap.size w) (N12 k n s r t (.slice p q c))
  have hb0 := hS.below
  have HP := print_ok (w.alloc (.cells (N12 k n s r t (.slice p q c)) 28)) (hE.next hb0) (P := P) (fun b hb2 => Nat.lt_of_lt_of_le (hP b hb2) hb0.size) hw (hN.mono (fun b hb => hb0.block b (hP b hb)) (fun _ h => h)) hO (by rw [← nd_kd hN k n s r t _ rfl]; exact h6) hc
  unfold prV at HP
  rw [if_pos ⟨hl, hd⟩] at HP
  obtain ⟨Z0, hZ0⟩ : ∃ Z0 : ByteArray, ⟨(61 :: x).toArray⟩ = Z0 := ⟨_, rfl⟩
  rw [hZ0] at HP
  clear hZ0 hw h6 hc hl hd hN hO hP hE
  obtain ⟨⟨a0, a1, a2, a3, a4, a5, a6, a7, a8, a9, a10, a11⟩, af⟩ := cells12 hS.a
  go_enter Tryz.func27, Tryz.ntmps27
  go_wp2_with fail
  refine HP.mono ?_
  rintro e w1 ⟨rfl, hb1⟩
  go_wp2_with fail
  go_ret
  exact ⟨rfl, bnext hb0 hb1 hb0.size⟩
end Go.Proofs.YtoaejcppfmjhdaaGreatDoor.fm
namespace Go.Proofs.YtoaejcppfmjhdaaGreatDoor.ev
open Go.RowKit
open fm (N12)
/-- A tree that lies in a world. -/
def In (wx : World) (v : Value) (t : fm.T) : Prop := fm.Nd wx (fun b => b < wx.heap.size) v t
theorem In.next {wx wy : World} {v : Value} {t : fm.T} (h : In wx v t) (hb : Below wx.heap.size wx wy) : In wy v t :=
  fm.Nd.mono h (fun b hq => hb.block b hq) (fun _ h => Nat.lt_of_lt_of_le h hb.size)
set_option maxRecDepth 100000 in
set_option maxHeartbeats 4000000 in
theorem eval_any {k n : Int} {s : ByteArray} {r t : fm.Rf} {p : Option Addr} {q c : Nat} {T0 : fm.T} (w : World) (hE : fm.EnvW w) (hN : In w (fm.NV k n s r t (.slice p q c)) T0) (hO : fm.Ok T0) (hC : fm.Ckd T0)
    (pl : Option Addr) (cl : Nat) (xs : List Sh) (hx : ShL w pl xs) (hok : ShOk xs) (hlen : xs.length ≤ 1000) {kr mr : Int} {zr : ByteArray} (hV : Ev (vals xs fun _ => none) T0 kr mr zr) :
    Calls Tryz.prog 9 #[fm.NV k n s r t (.slice p q c), .slice pl xs.length cl] w fun e w' => e = .returned (.tuple #[VV kr mr zr, .nilIface]) ∧ Below w.heap.size w w' := by
  have HCK : Hid (∀ wx, Below w.heap.size w wx → Calls Tryz.prog 27 #[fm.NV k n s r t (.slice p q c)] wx fun e w' => e = .returned .nilIface ∧ Below wx.heap.size wx w') := fun wx hb => by
    exact fm.check_yes wx (hE.next hb) (fun _ h => h) (hN.next hb) hO hC
  have HSH : Hid (∀ wx, Below w.heap.size w wx → Calls Tryz.prog 28 #[.slice pl xs.length cl] wx fun e w' => ∃ mb, e = .returned (.tuple #[.map (some mb), .nilIface]) ∧ mp.CM Tryz.prog 23 w' mb (vals xs fun _ => none) ∧ mb < w'.heap.size ∧ Below wx.heap.size wx w') := fun wx hb => by
    refine (sheetOf_any pl cl xs wx (hx.next hb) hok (by omega)).mono ?_
    rintro e w' ⟨rfl, h1, h2, h3⟩
    exact ⟨_, rfl, h1, h2, h3⟩
  have HWO : Hid (∀ wx mb, Below w.heap.size w wx → mp.CM Tryz.prog 23 wx mb (vals xs fun _ => none) → mb < wx.heap.size → Calls Tryz.prog 29 #[.map (some mb), fm.NV k n s r t (.slice p q c)] wx fun e w' => e = .returned (VV kr mr zr) ∧ Below wx.heap.size wx w') := fun wx mb hb hm hl => by
    have hE' := hE.next hb
    exact wo_ev hV wx _ _ mb (hN.next hb) ⟨hm, hl, hE'.m, by have := hE'.lt; omega⟩ wx (Below.refl _ _)
  obtain ⟨hA, hR⟩ := two_new w (.cells (N12 k n s r t (.slice p q c)) 28) (.cells #[.int .i64 0, .int .i64 0, .string nul] 31)
  have hbW : Below w.heap.size w ((w.alloc (.cells (N12 k n s r t (.slice p q c)) 28)).alloc (.cells #[.int .i64 0, .int .i64 0, .string nul] 31)) := ((Below.refl _ _).alloc (Nat.le_refl _) _).alloc (by simp) _
  obtain ⟨⟨a0, a1, a2, a3, a4, a5, a6, a7, a8, a9, a10, a11⟩, -⟩ := fm.cells12 hA
  have HR : Hid (∀ wx, Below ((w.alloc (.cells (N12 k n s r t (.slice p q c)) 28)).alloc (.cells #[.int .i64 0, .int .i64 0, .string nul] 31)).heap.size ((w.alloc (.cells (N12 k n s r t (.slice p q c)) 28)).alloc (.cells #[.int .i64 0, .int .i64 0, .string nul] 31)) wx → wx.heap[w.heap.size]? = some (.cells (N12 k n s r t (.slice p q c)) 28 (0, 0)) ∧ wx.heap[w.heap.size + 1]? = some (.cells #[.int .i64 0, .int .i64 0, .string nul] 31 (0, 0)) ∧ Below w.heap.size w wx) := fun wx h => ⟨(h.block _ (fm.lt_blk hA)).trans hA, (h.block _ (fm.lt_blk hR)).trans hR, bnext hbW h hbW.size⟩
  have HB0 : Hid (Below w.heap.size w ((w.alloc (.cells (N12 k n s r t (.slice p q c)) 28)).alloc (.cells #[.int .i64 0, .int .i64 0, .string nul] 31))) := hbW
  clear hA hR hbW hE hN hO hC hx hok hlen hV
  go_enter Tryz.func9, Tryz.ntmps9
  go_wp2_with fail
  refine (HCK.out _ HB0.out).mono ?_
  clear a0 a1 a2 a3 a4 a5 a6 a7 a8 a9 a10 a11
  rintro e w1 ⟨rfl, hb1⟩
  have HB1 : Hid (Below ((w.alloc (.cells (N12 k n s r t (.slice p q c)) 28)).alloc (.cells #[.int .i64 0, .int .i64 0, .string nul] 31)).heap.size ((w.alloc (.cells (N12 k n s r t (.slice p q c)) 28)).alloc (.cells #[.int .i64 0, .int .i64 0, .string nul] 31)) w1) := hb1
  clear hb1
  go_wp2_with fail
  refine (HSH.out _ (HR.out _ HB1.out).2.2).mono ?_
  rintro e w2 ⟨mb, rfl, hm, hlt, hb2⟩
  have HM : Hid (mp.CM Tryz.prog 23 w2 mb (vals xs fun _ => none) ∧ mb < w2.heap.size) := ⟨hm, hlt⟩
  have HB2 : Hid (Below ((w.alloc (.cells (N12 k n s r t (.slice p q c)) 28)).alloc (.cells #[.int .i64 0, .int .i64 0, .string nul] 31)).heap.size ((w.alloc (.cells (N12 k n s r t (.slice p q c)) 28)).alloc (.cells #[.int .i64 0, .int .i64 0, .string nul] 31)) w2) := bnext HB1.out hb2 HB1.out.size
  obtain ⟨⟨a0, a1, a2, a3, a4, a5, a6, a7, a8, a9, a10, a11⟩, -⟩ := fm.cells12 (HR.out _ HB2.out).1
  clear hm hlt hb2 HB1
  go_wp2_with fail
  refine (HWO.out _ mb (HR.out _ HB2.out).2.2 HM.out.1 HM.out.2).mono ?_
  clear a0 a1 a2 a3 a4 a5 a6 a7 a8 a9 a10 a11
  rintro e w3 ⟨rfl, hb3⟩
  obtain ⟨-, hq1, hb4⟩ := HR.out w3 (bnext HB2.out hb3 HB2.out.size)
  have HB : Hid (Below w.heap.size w w3) := hb4
  obtain ⟨c0, c1, c2⟩ := cells3v hq1
  have f0 : ∀ o, w3.frozen? ⟨w.heap.size + 1, o, none⟩ = false := frz hq1
  have HQ1 : Hid (w3.heap[w.heap.size + 1]? = some (.cells #[.int .i64 0, .int .i64 0, .string nul] 31 (0, 0))) := hq1
  clear hq1 hb3 hb4 HR HB2 HM HWO HSH HCK HB0
  go_wp2_with fail
  refine fin3 HQ1.out (Q := bodyPost _ _ _ _ _) ?_
  clear c0 c1 c2 f0
  intro w4 hq4 hk4
  obtain ⟨d0, d1, d2⟩ := cells3v hq4
  exact bodyPost_ret (v := .tuple #[VV kr mr zr, .nilIface]) (by simp [results, Tryz.results9, go_sem, d0, d1, d2]) rfl ⟨rfl, HB.out.trans (hk4 _ (by omega))⟩
set_option maxRecDepth 100000 in
set_option maxHeartbeats 4000000 in
theorem works_any {k n : Int} {s : ByteArray} {r t : fm.Rf} {p : Option Addr} {q c : Nat} {T0 : fm.T} (w : World) (hE : fm.EnvW w) (hN : In w (fm.NV k n s r t (.slice p q c)) T0) (hO : fm.Ok T0) (hC : fm.Ckd T0)
    (pl : Option Addr) (cl : Nat) (xs : List Sh) (hx : ShL w pl xs) (hok : ShOk xs) (hlen : xs.length ≤ 1000) {kr mr : Int} {zr : ByteArray} (hV : Ev (vals xs fun _ => none) T0 kr mr zr) :
    Calls Tryz.prog 14 #[fm.NV k n s r t (.slice p q c), .slice pl xs.length cl] w fun e w' => e = .returned (.tuple #[VV kr mr zr, .bool true]) ∧ Below w.heap.size w w' := by
  have HEV : Hid (∀ wx, Below w.heap.size w wx → Calls Tryz.prog 9 #[fm.NV k n s r t (.slice p q c), .slice pl xs.length cl] wx fun e w' => e = .returned (.tuple #[VV kr mr zr, .nilIface]) ∧ Below wx.heap.size wx w') := fun wx hb =>
    eval_any wx (hE.next hb) (hN.next hb) hO hC pl cl xs (hx.next hb) hok hlen hV
  obtain ⟨hA, hR⟩ := two_new w (.cells (N12 k n s r t (.slice p q c)) 28) (.cells #[.int .i64 0, .int .i64 0, .string nul] 31)
  have hbW : Below w.heap.size w ((w.alloc (.cells (N12 k n s r t (.slice p q c)) 28)).alloc (.cells #[.int .i64 0, .int .i64 0, .string nul] 31)) := ((Below.refl _ _).alloc (Nat.le_refl _) _).alloc (by simp) _
  obtain ⟨⟨a0, a1, a2, a3, a4, a5, a6, a7, a8, a9, a10, a11⟩, -⟩ := fm.cells12 hA
  have HR : Hid (∀ wx, Below ((w.alloc (.cells (N12 k n s r t (.slice p q c)) 28)).alloc (.cells #[.int .i64 0, .int .i64 0, .string nul] 31)).heap.size ((w.alloc (.cells (N12 k n s r t (.slice p q c)) 28)).alloc (.cells #[.int .i64 0, .int .i64 0, .string nul] 31)) wx → wx.heap[w.heap.size + 1]? = some (.cells #[.int .i64 0, .int .i64 0, .string nul] 31 (0, 0)) ∧ Below w.heap.size w wx) := fun wx h => ⟨(h.block _ (fm.lt_blk hR)).trans hR, bnext hbW h hbW.size⟩
  have HB0 : Hid (Below w.heap.size w ((w.alloc (.cells (N12 k n s r t (.slice p q c)) 28)).alloc (.cells #[.int .i64 0, .int .i64 0, .string nul] 31))) := hbW
  clear hA hR hbW hE hN hO hC hx hok hlen hV
  go_enter Tryz.func14, Tryz.ntmps14
  go_wp2_with fail
  refine (HEV.out _ HB0.out).mono ?_
  clear a0 a1 a2 a3 a4 a5 a6 a7 a8 a9 a10 a11
  rintro e w1 ⟨rfl, hb1⟩
  obtain ⟨V1, hV1⟩ : ∃ V1, V1 = w1.alloc (.cells #[.int .i64 kr, .int .i64 mr, .string zr] 31) := ⟨_, rfl⟩
  have hbv : Below w1.heap.size w1 V1 := by rw [hV1]; exact (Below.refl _ _).alloc (Nat.le_refl _) _
  obtain ⟨hq1, hb4⟩ := HR.out V1 (bnext hb1 hbv hb1.size)
  have hv0 : V1.heap[w1.heap.size]? = some (.cells #[.int .i64 kr, .int .i64 mr, .string zr] 31 (0, 0)) := by rw [hV1]; exact heap_alloc_new _ _
  have HB : Hid (Below w.heap.size w V1) := hb4
  obtain ⟨v0, v1, v2⟩ := cells3v hv0
  obtain ⟨c0, c1, c2⟩ := cells3v hq1
  have f0 : ∀ o, V1.frozen? ⟨w.heap.size + 1, o, none⟩ = false := frz hq1
  have HQ1 : Hid (V1.heap[w.heap.size + 1]? = some (.cells #[.int .i64 0, .int .i64 0, .string nul] 31 (0, 0))) := hq1
  have HVV : Hid (w1.alloc (.cells #[.int .i64 kr, .int .i64 mr, .string zr] 31) = V1) := hV1.symm
  rw [hV1] at v0 v1 v2 c0 c1 c2 f0
  clear hq1 hb1 hb4 hbv hv0 HR HEV HB0 hV1
  go_wp2_with fail
  go_region
  all_goals
    go_wp2_with fail
    rw [HVV.out] at *
    refine fin3 (w := World.drew V1) (t := 31) HQ1.out (Q := bodyPost _ _ _ _ _) ?_
    clear c0 c1 c2 f0
    intro w4 hq4 hk4
    obtain ⟨d0, d1, d2⟩ := cells3v hq4
    exact bodyPost_ret (v := .tuple #[VV kr mr zr, .bool true]) (by simp [results, Tryz.results14, go_sem, d0, d1, d2]) rfl ⟨rfl, HB.out.drew.trans (hk4 _ (by omega))⟩
end Go.Proofs.YtoaejcppfmjhdaaGreatDoor.ev
