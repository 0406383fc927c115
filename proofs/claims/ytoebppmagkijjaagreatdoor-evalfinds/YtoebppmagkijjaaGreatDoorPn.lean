/- Any node that can be written is written. Conditions: the package variables as the program's text lays them; lengths below a million. -/
import Derived.Test.YtoebppmagkijjaaGreatDoorPm
namespace Go.Proofs.YtoebppmagkijjaaGreatDoor.fm
open Go.RowKit
theorem clos72 (wb pb nb : Nat) (k n : Int) (s : ByteArray) (r t : Rf) (p : Option Addr) (q c : Nat) (w : World) (hp : w.heap[pb]? = some (.cells #[ptr wb] 166 (0, 0))) (hn : w.heap[nb]? = some (.cells (N12 k n s r t (.slice p q c)) 28 (0, 0))) (Q : World → Prop)
    (h : Calls Tryz.prog 145 #[ptr wb, .slice p q c] w fun e w' => e = .returned (.tuple #[]) ∧ Q w') : Calls Tryz.prog 144 #[ptr pb, ptr nb] w fun e w' => e = .returned (.tuple #[]) ∧ Q w' := by
  obtain ⟨p0, p1⟩ := cells1 hp
  obtain ⟨⟨a0, a1, a2, a3, a4, a5, a6, a7, a8, a9, a10, a11⟩, af⟩ := cells12 hn
  have HH : Hid (Calls Tryz.prog 145 #[ptr wb, .slice p q c] w fun e w' => e = .returned (.tuple #[]) ∧ Q w') := h
  clear h
  go_enter Tryz.func144, Tryz.ntmps144
  go_wp2_with fail
  refine HH.out.mono ?_
  rintro e w1 ⟨rfl, hq⟩
  have HQ : Hid (Q w1) := hq
  clear hq
  go_wp2_with fail
  go_end0
  exact ⟨rfl, HQ.out⟩
set_option maxHeartbeats 4000000 in
set_option maxRecDepth 100000 in
theorem node_call (w0 : World) (name : ByteArray) (hnm : name.size ≤ 10) (n : Int) (r t : Rf) (p : Option Addr) (q c : Nat) (xs : List (List UInt8)) (D : Nat)
    (hA : ∀ (w : World) (wb : Nat) (y : List UInt8) (d m : Nat), Below w0.heap.size w0 w → WB w w0.heap.size wb y d m → d ≤ m → m ≤ 500000 ∧ d + D ≤ 500000 → y.length + (commas xs).length ≤ 1000000 → Calls Tryz.prog 145 #[ptr wb, .slice p q c] w fun e w' => e = .returned (.tuple #[]) ∧ WB w' w0.heap.size wb (y ++ commas xs) d (max m (d + D)) ∧ Kw w0.heap.size wb w w') :
    NodeOK w0 (NV 9 n name r t (.slice p q c)) (name.data.toList ++ 40 :: (commas xs ++ [41])) (D + 1) := by
  intro w wb y d m hb hW hdm hm hlen
  have hs0 := hb.size
  have hlt := hW.lt
  have hW2 := (hW.alloc (.cells #[ptr wb] 166)).alloc (.cells (N12 9 n name r t (.slice p q c)) 28)
  have kW2 : Kw w0.heap.size wb w ((w.alloc (.cells #[ptr wb] 166)).alloc (.cells (N12 9 n name r t (.slice p q c)) 28)) := ((Kw.refl _ _ _).alloc hs0 _).alloc (by simp; omega) _
  have hp2 : ((w.alloc (.cells #[ptr wb] 166)).alloc (.cells (N12 9 n name r t (.slice p q c)) 28)).heap[w.heap.size]? = some (.cells #[ptr wb] 166 (0, 0)) := by
    rw [Below.heap_alloc _ _ _ (by simp)]; exact blk_new _ _
  have hn2 : ((w.alloc (.cells #[ptr wb] 166)).alloc (.cells (N12 9 n name r t (.slice p q c)) 28)).heap[w.heap.size + 1]? = some (.cells (N12 9 n name r t (.slice p q c)) 28 (0, 0)) := by
    have := blk_new (w.alloc (.cells #[ptr wb] 166)) (.cells (N12 9 n name r t (.slice p q c)) 28)
    simpa using this
  have hd : (name ++ ⟨#[40]⟩ : ByteArray).data.toList = name.data.toList ++ [40] := by simp [ByteArray.data_append]
  have hz : (name ++ ⟨#[40]⟩ : ByteArray).size = name.size + 1 := by rw [ByteArray.size_append]; rfl
  have hne : name.data.toList.length = name.size := by simp
  simp only [List.length_append, List.length_cons, List.length_nil] at hlen
  have HD := deeper72 w0.heap.size wb w.heap.size (w.heap.size + 1) y (commas xs) (name ++ ⟨#[40]⟩) ⟨#[41]⟩ d m D _ hW2 hdm (by omega) (by have e2 : (⟨#[41]⟩ : ByteArray).size = 1 := rfl; omega) (by simp; omega) (fun w1 hW1 hk1 => by
    have hp1 := hk1.blk hp2 (by decide) (by omega)
    have hn1 := hk1.blk hn2 (by decide) (by omega)
    have hb1 := (hb.trans kW2.b).trans hk1.b
    exact clos72 wb _ _ 9 n name r t p q c w1 hp1 hn1
      (fun w' => WB w' w0.heap.size wb (y ++ (name ++ ⟨#[40]⟩ : ByteArray).data.toList ++ commas xs) (d + 1) (max (max m (d + 1)) (d + 1 + D)) ∧ Kw w0.heap.size wb w1 w')
      (hA w1 wb _ (d + 1) (max m (d + 1)) hb1 hW1 (by omega) (by omega) (by rw [hd]; simp only [List.length_append, List.length_cons, List.length_nil]; omega)))
  rw [hd] at HD
  have q1 : ¬ 9223372036854775807 < name.size + (⟨#[40]⟩ : ByteArray).size := by have e2 : (⟨#[40]⟩ : ByteArray).size = 1 := rfl; omega
  have q2 : ¬ 9223372036854775807 < name.size + 1 := by omega
  have HDD : Hid (Calls Tryz.prog 141 #[ptr wb, .string (name ++ ⟨#[40]⟩), .func (.func 144) #[] #[ptr w.heap.size, ptr (w.heap.size + 1)], .string ⟨#[41]⟩] ((w.alloc (.cells #[ptr wb] 166)).alloc (.cells (N12 9 n name r t (.slice p q c)) 28)) fun e w' => e = .returned (.tuple #[]) ∧ WB w' w0.heap.size wb (y ++ (name.data.toList ++ [40]) ++ commas xs ++ (⟨#[41]⟩ : ByteArray).data.toList) d (max m (d + 1 + D)) ∧ Kw w0.heap.size wb ((w.alloc (.cells #[ptr wb] 166)).alloc (.cells (N12 9 n name r t (.slice p q c)) 28)) w') := HD
  have hmf : ∀ (fn : Fn) (first cap : Array Value) (w : World), (Instr.makeFunc fn first cap).run Tryz.prog w = .ok (.func fn first cap) w := fun _ _ _ _ => rfl
  have HK : Hid (Kw w0.heap.size wb w ((w.alloc (.cells #[ptr wb] 166)).alloc (.cells (N12 9 n name r t (.slice p q c)) 28))) := kW2
  obtain ⟨⟨a0, a1, a2, a3, a4, a5, a6, a7, a8, a9, a10, a11⟩, af⟩ := cells12 hn2
  clear HD hA kW2 hW hW2 hp2 hn2 hb hd hz hne
  go_enter Tryz.func103, Tryz.ntmps103
  go_wp2_with fail
  refine HDD.out.mono ?_
  rintro e w3 ⟨rfl, h3, k3⟩
  go_wp2_with fail
  go_end0
  refine ⟨rfl, ?_, HK.out.trans k3⟩
  rw [show d + (D + 1) = d + 1 + D from by omega]
  simpa using h3
theorem ok_kid {k n : Int} {s : ByteArray} {r t : Rf} {ts : List T} (h : Ok (.nd k n s r t ts)) {i : Nat} {u : T} (hu : ts[i]? = some u) : Ok u := by
  cases h with
  | mk _ _ hs => exact hs i u hu
/-- Any node that can be written is written. -/
theorem node_any (w0 : World) (hE : EnvW w0) {t : T} {x : List UInt8} {dp : Nat} (h : W ink t x dp) : ∀ {P : Nat → Prop} {v : Value}, Nd w0 P v t → Ok t → NodeOK w0 v x dp := by
  induction h with
  | num h0 h1 => intro P v hN _; cases hN; exact node_leaf w0 hE (.num (K := ink) h0 h1) (by decide) (by decide) (by decide) _ _ _
  | text h => intro P v hN _; cases hN; exact node_leaf w0 hE (.text (K := ink) h) (by decide) (by decide) (by decide) _ _ _
  | truth h => intro P v hN _; cases hN; exact node_leaf w0 hE (.truth (K := ink) h) (by decide) (by decide) (by decide) _ _ _
  | bad h h6 => intro P v hN _; cases hN; exact node_leaf w0 hE (.bad (K := ink) h h6) (by decide) (by decide) (by decide) _ _ _
  | ref h => intro P v hN _; cases hN; exact node_leaf w0 hE (.ref (K := ink) h) (by decide) (by decide) (by decide) _ _ _
  | box h h2 => intro P v hN _; cases hN; exact node_leaf w0 hE (.box (K := ink) h h2) (by decide) (by decide) (by decide) _ _ _
  | @neg a x d ha hw ih =>
    intro P v hN hO
    cases hN with
    | @mk _ _ _ _ _ p m c us _ hk hl hs =>
      obtain rfl : m = 1 := by rw [hk.1, hl]; rfl
      obtain ⟨g, o, u, t1, rfl, hg, hu, ht1, hc⟩ := kid_at hk hl hs 0 (by omega)
      obtain rfl : a = t1 := by simpa using ht1
      have hNu := hs 0 u a hu ht1
      have hnode := ih hNu (ok_kid hO ht1)
      have hopd := opd_any w0 hE hNu hw hnode 5
      cases hNu with
      | mk _ _ _ => exact node_neg w0 g o c _ _ _ _ _ _ _ _ _ _ _ _ hg (fun j x hx => by have := hc j x hx; simpa using this) hopd
  | @two op a b x y d e h1 h11 ha hb hx hy ihx ihy =>
    intro P v hN hO
    cases hN with
    | @mk _ _ _ _ _ p m c us _ hk hl hs =>
      obtain rfl : m = 2 := by rw [hk.1, hl]; rfl
      obtain ⟨g, o, u, t1, rfl, hg, hu, ht1, hc⟩ := kid_at hk hl hs 0 (by omega)
      obtain ⟨g', o', u', t2, hp', hg', hu', ht2, hc'⟩ := kid_at hk hl hs 1 (by omega)
      obtain ⟨rfl, rfl⟩ : g = g' ∧ o = o' := by simpa using hp'
      obtain rfl : a = t1 := by simpa using ht1
      obtain rfl : b = t2 := by simpa using ht2
      have hNu := hs 0 u a hu ht1
      have hNv := hs 1 u' b hu' ht2
      have o1 := opd_any w0 hE hNu hx (ihx hNu (ok_kid hO ht1)) (lev op)
      have o2 := opd_any w0 hE hNv hy (ihy hNv (ok_kid hO ht2)) (lev op + 1)
      cases hNu with
      | mk _ _ _ =>
        cases hNv with
        | mk _ _ _ => exact node_two w0 hE op h1 h11 g o c _ _ _ _ _ _ _ _ _ _ _ _ _ _ _ _ _ _ _ hg (fun j x hx => by have := hc j x hx; simpa using this) (fun j x hx => by have := hc' j x hx; simpa using this) o1 o2
  | @call name ts xs ds hn hx hd h ih =>
    intro P v hN hO
    cases hN with
    | @mk _ _ _ _ _ p m c us _ hk hl hs =>
      have hm : m = ts.length := by rw [hk.1, hl]
      have hO2 : ts.length ≤ 9223372036854775807 := by cases hO with | mk _ h2 _ => exact h2
      have hnm : name.size ≤ 10 := by
        unfold isNm at hn
        rw [Bool.and_eq_true, Bool.and_eq_true, decide_eq_true_eq, decide_eq_true_eq] at hn
        exact hn.1.2
      exact node_call w0 name hnm 0 _ _ p m c xs _ (fun w wb y d m' q1 q2 q3 q4 q5 => args_any w0 hk hl hs hx hd (fun i u x e g1 g2 g3 => by
        have hi : i < ts.length := by rw [← hl]; exact (List.getElem?_eq_some_iff.1 g1).1
        have g4 : ts[i]? = some ts[i] := List.getElem?_eq_getElem hi
        exact ih i _ x e g4 g2 g3 (hs i u _ g1 g4) (ok_kid hO g4)) (by omega) w wb y d m' q1 q2 q3 q4 q5)
end Go.Proofs.YtoebppmagkijjaaGreatDoor.fm
