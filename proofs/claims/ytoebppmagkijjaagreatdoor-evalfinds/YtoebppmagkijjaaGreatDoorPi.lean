/- An operand is written: in brackets, if it is looser than asked for. Conditions: the package variables as the program's text lays them; lengths below a million. -/
import Derived.Test.YtoebppmagkijjaaGreatDoorPh
import Derived.Test.YtoebppmagkijjaaGreatDoorPe
import Derived.Test.YtoebppmagkijjaaGreatDoorPf
namespace Go.Proofs.YtoebppmagkijjaaGreatDoor.fm
open Go.RowKit
theorem Kw.blk {B wb : Nat} {w w' : World} (h : Kw B wb w w') {b : Nat} {cs : Array Value} {t : TypeId} {f : Nat × Nat} (hb : w.heap[b]? = some (.cells cs t f)) (ht : t ≠ 5) (hne : b ≠ wb) : w'.heap[b]? = some (.cells cs t f) :=
  h.o b _ hb (fun e => hne (Option.some.inj e)) (fun c fz e => ht (by injection e))
/-- What a call of the writer's with a node writes. -/
def NodeOK (w0 : World) (v : Value) (x : List UInt8) (dp : Nat) : Prop := ∀ (w : World) (wb : Nat) (y : List UInt8) (d m : Nat), Below w0.heap.size w0 w → WB w w0.heap.size wb y d m → d ≤ m → m ≤ 500000 ∧ d + dp ≤ 500000 → y.length + x.length ≤ 1000000 →
  Calls Tryz.prog 103 #[ptr wb, v] w fun e w' => e = .returned (.tuple #[]) ∧ WB w' w0.heap.size wb (y ++ x) d (max m (d + dp)) ∧ Kw w0.heap.size wb w w'
def OpdOK (w0 : World) (v : Value) (l : Nat) (x : List UInt8) (dp : Nat) : Prop := ∀ (w : World) (wb : Nat) (y : List UInt8) (d m : Nat), Below w0.heap.size w0 w → WB w w0.heap.size wb y d m → d ≤ m → m ≤ 500000 ∧ d + dp ≤ 500000 → y.length + x.length ≤ 1000000 →
  Calls Tryz.prog 143 #[ptr wb, v, .int .i64 (l : Nat)] w fun e w' => e = .returned (.tuple #[]) ∧ WB w' w0.heap.size wb (y ++ x) d (max m (d + dp)) ∧ Kw w0.heap.size wb w w'
theorem clos95 (wb pb nb : Nat) (v : Value) (k n : Int) (s : ByteArray) (r t : Rf) (u : Value) (hv : v = NV k n s r t u) (w : World) (hp : w.heap[pb]? = some (.cells #[ptr wb] 166 (0, 0))) (hn : w.heap[nb]? = some (.cells (N12 k n s r t u) 28 (0, 0))) (Q : Ending → World → Prop)
    (h : Calls Tryz.prog 103 #[ptr wb, v] w fun e w' => e = .returned (.tuple #[]) ∧ Q e w') : Calls Tryz.prog 227 #[ptr pb, ptr nb] w fun e w' => e = .returned (.tuple #[]) ∧ Q e w' := by
  subst hv
  obtain ⟨p0, p1⟩ := cells1 hp
  obtain ⟨⟨a0, a1, a2, a3, a4, a5, a6, a7, a8, a9, a10, a11⟩, af⟩ := cells12 hn
  have HH : Hid (Calls Tryz.prog 103 #[ptr wb, NV k n s r t u] w fun e w' => e = .returned (.tuple #[]) ∧ Q e w') := h
  clear h
  go_enter Tryz.func227, Tryz.ntmps227
  go_wp2_with fail
  refine HH.out.mono ?_
  rintro e w1 ⟨rfl, hq⟩
  have HQ : Hid (Q (.returned (.tuple #[])) w1) := hq
  clear hq
  go_wp2_with fail
  go_end0
  exact ⟨rfl, HQ.out⟩
set_option maxHeartbeats 4000000 in
set_option maxRecDepth 100000 in
theorem opd_loose (w0 : World) (hE : EnvW w0) (op l : Nat) (h1 : 1 ≤ op) (h11 : op ≤ 11) (s : ByteArray) (r t : Rf) (p : Option Addr) (q c : Nat) (x : List UInt8) (dp : Nat) (hN : NodeOK w0 (NV 8 op s r t (.slice p q c)) x dp) (hl : lev op < l) : OpdOK w0 (NV 8 op s r t (.slice p q c)) l (40 :: (x ++ [41])) (dp + 1) := by
  intro w wb y d m hb hW hdm hm hlen
  have hEw := hE.below hb hE.lt
  have hB := hW.ge
  have hs0 := hb.size
  have hlt := hW.lt
  have hW2 := (hW.alloc (.cells #[ptr wb] 166)).alloc (.cells (N12 8 op s r t (.slice p q c)) 28)
  have kW2 : Kw w0.heap.size wb w ((w.alloc (.cells #[ptr wb] 166)).alloc (.cells (N12 8 op s r t (.slice p q c)) 28)) := ((Kw.refl _ _ _).alloc hs0 _).alloc (by simp; omega) _
  have hp2 : ((w.alloc (.cells #[ptr wb] 166)).alloc (.cells (N12 8 op s r t (.slice p q c)) 28)).heap[w.heap.size]? = some (.cells #[ptr wb] 166 (0, 0)) := by
    rw [Below.heap_alloc _ _ _ (by simp)]; exact blk_new _ _
  have hn2 : ((w.alloc (.cells #[ptr wb] 166)).alloc (.cells (N12 8 op s r t (.slice p q c)) 28)).heap[w.heap.size + 1]? = some (.cells (N12 8 op s r t (.slice p q c)) 28 (0, 0)) := by
    have := blk_new (w.alloc (.cells #[ptr wb] 166)) (.cells (N12 8 op s r t (.slice p q c)) 28)
    simpa using this
  have hE2 := hEw.below kW2.b hE.lt
  have hcell := (hE2.f.cell op (by omega)).2
  have hcell0 := (hEw.f.cell op (by omega)).2
  rw [show 2 * op + 1 = op * 2 + 1 from by omega] at hcell hcell0
  obtain ⟨p0, p1⟩ := cells1 hp2
  obtain ⟨⟨a0, a1, a2, a3, a4, a5, a6, a7, a8, a9, a10, a11⟩, af⟩ := cells12 hn2
  have hlv : opLv op = lev op := by
    have hc : op = 1 ∨ op = 2 ∨ op = 3 ∨ op = 4 ∨ op = 5 ∨ op = 6 ∨ op = 7 ∨ op = 8 ∨ op = 9 ∨ op = 10 ∨ op = 11 := by omega
    rcases hc with rfl | rfl | rfl | rfl | rfl | rfl | rfl | rfl | rfl | rfl | rfl <;> rfl
  have hl' : ((opLv op : Nat) : Int) < (l : Int) := by omega
  have i0 : (0 : Int) ≤ (op : Int) := by omega
  have i1 : (op : Int) < 12 := by omega
  have HD := deeper95 w0.heap.size wb w.heap.size (w.heap.size + 1) y x ⟨#[40]⟩ ⟨#[41]⟩ d m dp _ hW2 hdm (by omega) (by simp at hlen ⊢; have e1 : (⟨#[40]⟩ : ByteArray).size = 1 := rfl; have e2 : (⟨#[41]⟩ : ByteArray).size = 1 := rfl; omega) (by simp; omega) (fun w1 hW1 hk1 => by
    have hp1 := hk1.blk hp2 (by decide) (by omega)
    have hn1 := hk1.blk hn2 (by decide) (by omega)
    exact clos95 wb _ _ _ 8 op s r t _ rfl w1 hp1 hn1 (fun _ w' => WB w' w0.heap.size wb (y ++ (⟨#[40]⟩ : ByteArray).data.toList ++ x) (d + 1) (max (max m (d + 1)) (d + 1 + dp)) ∧ Kw w0.heap.size wb w1 w')
      (hN w1 wb _ (d + 1) (max m (d + 1)) ((hb.trans kW2.b).trans hk1.b) hW1 (by omega) (by omega) (by simp at hlen ⊢; omega)))
  have HDD : Hid (Calls Tryz.prog 141 #[ptr wb, .string ⟨#[40]⟩, .func (.func 227) #[] #[ptr w.heap.size, ptr (w.heap.size + 1)], .string ⟨#[41]⟩] ((w.alloc (.cells #[ptr wb] 166)).alloc (.cells (N12 8 op s r t (.slice p q c)) 28)) fun e w' => e = .returned (.tuple #[]) ∧ WB w' w0.heap.size wb (y ++ (⟨#[40]⟩ : ByteArray).data.toList ++ x ++ (⟨#[41]⟩ : ByteArray).data.toList) d (max m (d + 1 + dp)) ∧ Kw w0.heap.size wb ((w.alloc (.cells #[ptr wb] 166)).alloc (.cells (N12 8 op s r t (.slice p q c)) 28)) w') := HD
  have hmf : ∀ (fn : Fn) (first cap : Array Value) (w : World), (Instr.makeFunc fn first cap).run Tryz.prog w = .ok (.func fn first cap) w := fun _ _ _ _ => rfl
  have HK : Hid (Kw w0.heap.size wb w ((w.alloc (.cells #[ptr wb] 166)).alloc (.cells (N12 8 op s r t (.slice p q c)) 28))) := kW2
  clear HD hN hE hEw hE2 kW2 hW hW2 hp2 hn2 hb
  go_enter Tryz.func143, Tryz.ntmps143
  go_wp2_with fail
  refine HDD.out.mono ?_
  rintro e w3 ⟨rfl, h3, k3⟩
  go_wp2_with fail
  refine bodyPost_ret (v := .tuple #[]) (by simp [results, Tryz.results143]) rfl ⟨rfl, ?_, HK.out.trans k3⟩
  rw [show d + (dp + 1) = d + 1 + dp from by omega]
  simpa using h3
theorem opLv_lev {op : Nat} (h1 : 1 ≤ op) (h11 : op ≤ 11) : opLv op = lev op := by
  have hc : op = 1 ∨ op = 2 ∨ op = 3 ∨ op = 4 ∨ op = 5 ∨ op = 6 ∨ op = 7 ∨ op = 8 ∨ op = 9 ∨ op = 10 ∨ op = 11 := by omega
  rcases hc with rfl | rfl | rfl | rfl | rfl | rfl | rfl | rfl | rfl | rfl | rfl <;> rfl
set_option maxHeartbeats 4000000 in
set_option maxRecDepth 100000 in
theorem opd_tight (w0 : World) (hE : EnvW w0) (op l : Nat) (h1 : 1 ≤ op) (h11 : op ≤ 11) (s : ByteArray) (r t : Rf) (p : Option Addr) (q c : Nat) (x : List UInt8) (dp : Nat) (hN : NodeOK w0 (NV 8 op s r t (.slice p q c)) x dp) (hl : ¬ lev op < l) : OpdOK w0 (NV 8 op s r t (.slice p q c)) l x dp := by
  intro w wb y d m hb hW hdm hm hlen
  have hEw := hE.below hb hE.lt
  have hs0 := hb.size
  have hW2 := (hW.alloc (.cells #[ptr wb] 166)).alloc (.cells (N12 8 op s r t (.slice p q c)) 28)
  have kW2 : Kw w0.heap.size wb w ((w.alloc (.cells #[ptr wb] 166)).alloc (.cells (N12 8 op s r t (.slice p q c)) 28)) := ((Kw.refl _ _ _).alloc hs0 _).alloc (by simp; omega) _
  have hE2 := hEw.below kW2.b hE.lt
  have hcell := (hE2.f.cell op (by omega)).2
  have hcell0 := (hEw.f.cell op (by omega)).2
  rw [show 2 * op + 1 = op * 2 + 1 from by omega] at hcell hcell0
  have hlv := opLv_lev h1 h11
  have hl' : ¬ ((opLv op : Nat) : Int) < (l : Int) := by omega
  have i0 : (0 : Int) ≤ (op : Int) := by omega
  have i1 : (op : Int) < 12 := by omega
  have HC : Hid (Calls Tryz.prog 103 #[ptr wb, NV 8 op s r t (.slice p q c)] ((w.alloc (.cells #[ptr wb] 166)).alloc (.cells (N12 8 op s r t (.slice p q c)) 28)) fun e w' => e = .returned (.tuple #[]) ∧ WB w' w0.heap.size wb (y ++ x) d (max m (d + dp)) ∧ Kw w0.heap.size wb ((w.alloc (.cells #[ptr wb] 166)).alloc (.cells (N12 8 op s r t (.slice p q c)) 28)) w') := hN _ wb y d m (hb.trans kW2.b) hW2 hdm hm hlen
  have HK : Hid (Kw w0.heap.size wb w ((w.alloc (.cells #[ptr wb] 166)).alloc (.cells (N12 8 op s r t (.slice p q c)) 28))) := kW2
  clear hN hE hEw hE2 kW2 hW hW2 hb
  go_enter Tryz.func143, Tryz.ntmps143
  go_wp2_with fail
  refine HC.out.mono ?_
  rintro e w3 ⟨rfl, h3, k3⟩
  go_wp2_with fail
  go_end0
  exact ⟨rfl, h3, HK.out.trans k3⟩
set_option maxHeartbeats 4000000 in
set_option maxRecDepth 100000 in
theorem opd_plain (w0 : World) (k n : Int) (l : Nat) (h8 : ¬ k = 8) (s : ByteArray) (r t : Rf) (p : Option Addr) (q c : Nat) (x : List UInt8) (dp : Nat) (hN : NodeOK w0 (NV k n s r t (.slice p q c)) x dp) : OpdOK w0 (NV k n s r t (.slice p q c)) l x dp := by
  intro w wb y d m hb hW hdm hm hlen
  have hs0 := hb.size
  have hW2 := (hW.alloc (.cells #[ptr wb] 166)).alloc (.cells (N12 k n s r t (.slice p q c)) 28)
  have kW2 : Kw w0.heap.size wb w ((w.alloc (.cells #[ptr wb] 166)).alloc (.cells (N12 k n s r t (.slice p q c)) 28)) := ((Kw.refl _ _ _).alloc hs0 _).alloc (by simp; omega) _
  have HC : Hid (Calls Tryz.prog 103 #[ptr wb, NV k n s r t (.slice p q c)] ((w.alloc (.cells #[ptr wb] 166)).alloc (.cells (N12 k n s r t (.slice p q c)) 28)) fun e w' => e = .returned (.tuple #[]) ∧ WB w' w0.heap.size wb (y ++ x) d (max m (d + dp)) ∧ Kw w0.heap.size wb ((w.alloc (.cells #[ptr wb] 166)).alloc (.cells (N12 k n s r t (.slice p q c)) 28)) w') := hN _ wb y d m (hb.trans kW2.b) hW2 hdm hm hlen
  have HK : Hid (Kw w0.heap.size wb w ((w.alloc (.cells #[ptr wb] 166)).alloc (.cells (N12 k n s r t (.slice p q c)) 28))) := kW2
  clear hN kW2 hW hW2 hb
  go_enter Tryz.func143, Tryz.ntmps143
  go_wp2_with fail
  refine HC.out.mono ?_
  rintro e w3 ⟨rfl, h3, k3⟩
  go_wp2_with fail
  go_end0
  exact ⟨rfl, h3, HK.out.trans k3⟩
theorem brk_yes {l : Nat} {t : T} (h : loose l t = true) (x : List UInt8) (d : Nat) : brk l t x = 40 :: (x ++ [41]) ∧ brd l t d = d + 1 := by unfold brk brd; rw [h]; exact ⟨rfl, rfl⟩
theorem brk_no {l : Nat} {t : T} (h : loose l t = false) (x : List UInt8) (d : Nat) : brk l t x = x ∧ brd l t d = d := by unfold brk brd; rw [h]; exact ⟨rfl, rfl⟩
theorem loose_two (l op : Nat) (s : ByteArray) (r t : Rf) (ts : List T) : loose l (.nd 8 op s r t ts) = decide (lev op < l) := by
  unfold loose
  show (decide ((8 : Int) = 8) && decide (lev ((op : Int)).toNat < l)) = _
  rw [Int.toNat_natCast]; simp
theorem loose_not (l : Nat) {k : Int} (n : Int) (h : ¬ k = 8) (s : ByteArray) (r t : Rf) (ts : List T) : loose l (.nd k n s r t ts) = false := by
  unfold loose
  show (decide (k = 8) && _) = _
  rw [decide_eq_false h]; rfl
/-- Any operand. -/
theorem opd_any (w0 : World) (hE : EnvW w0) {P : Nat → Prop} {v : Value} {a : T} {x : List UInt8} {dp : Nat} (hNd : Nd w0 P v a) (hw : W ink a x dp) (hN : NodeOK w0 v x dp) (l : Nat) : OpdOK w0 v l (brk l a x) (brd l a dp) := by
  cases hNd with
  | @mk k n s r t p m c us ts hk hl hs =>
  by_cases h8 : k = 8
  · subst h8
    obtain ⟨op, rfl, h1, h11⟩ : ∃ op : Nat, n = (op : Int) ∧ 1 ≤ op ∧ op ≤ 11 := by
      cases hw with
      | two h1 h11 ha hb hx hy => exact ⟨_, rfl, h1, h11⟩
    by_cases hl : lev op < l
    · have e := brk_yes (by rw [loose_two, decide_eq_true hl] : loose l (.nd 8 op s r t ts) = true) x dp
      rw [e.1, e.2]
      exact opd_loose w0 hE op l h1 h11 _ _ _ _ _ _ _ _ hN hl
    · have e := brk_no (by rw [loose_two, decide_eq_false hl] : loose l (.nd 8 op s r t ts) = false) x dp
      rw [e.1, e.2]
      exact opd_tight w0 hE op l h1 h11 _ _ _ _ _ _ _ _ hN hl
  · have e := brk_no (loose_not l n h8 s r t ts) x dp
    rw [e.1, e.2]
    exact opd_plain w0 k n l h8 _ _ _ _ _ _ _ _ hN
end Go.Proofs.YtoebppmagkijjaaGreatDoor.fm
