/- A node that was handed in lies in memory as a tree: out of its reading. Nothing is walked here. -/
import Derived.Test.YtimagcmmaffpjaaGreatDoorPa
import Derived.Test.YtimagcmmaffpjaaGreatDoorPc
import Derived.ProofKit
import Derived.OpenShut
import Derived.Deep.Slices
import Derived.Deep.Strs
namespace Go.Proofs.YtimagcmmaffpjaaGreatDoor.fm
open Go.ChangeShapes Go.WideShapes Go.ChangeAt Go.RowKit
theorem cof3 : Tryz.prog.cellsOf 3 = 1 := by kernel_rfl
theorem cof4 : Tryz.prog.cellsOf 4 = 1 := by kernel_rfl
theorem cof9 : Tryz.prog.cellsOf 9 = 1 := by kernel_rfl
theorem cof23 : Tryz.prog.cellsOf 23 = 2 := by kernel_rfl
theorem cof25 : Tryz.prog.cellsOf 25 = 4 := by kernel_rfl
theorem cof28 : Tryz.prog.cellsOf 28 = 12 := by kernel_rfl
theorem cof26 : Tryz.prog.cellsOf 26 = 1 := by kernel_rfl
theorem cellsL_get : ∀ (us : List Value), (∀ (i : Nat) u, us[i]? = some u → u.cells.toList.length = 12) → ∀ (q : Nat) x, (cellsL us)[q]? = some x → ∃ u, us[q / 12]? = some u ∧ u.cells.toList[q % 12]? = some x
  | [], _, q, x, h => by simp [cellsL] at h
  | v :: us, h12, q, x, h => by
    have h0 := h12 0 v rfl
    have h : (v.cells.toList ++ cellsL us)[q]? = some x := h
    by_cases hq : q < 12
    · rw [List.getElem?_append_left (by omega)] at h
      exact ⟨v, by rw [show q / 12 = 0 by omega]; rfl, by rw [show q % 12 = q by omega]; exact h⟩
    · rw [List.getElem?_append_right (by omega), h0] at h
      obtain ⟨u, h1, h2⟩ := cellsL_get us (fun i u hu => h12 (i + 1) u hu) (q - 12) x h
      exact ⟨u, by rw [show q / 12 = (q - 12) / 12 + 1 by omega]; exact h1, by rw [show q % 12 = (q - 12) % 12 by omega]; exact h2⟩
theorem add_plain (g o k : Nat) : (⟨g, o, none⟩ : Addr).add k = ⟨g, o + k, none⟩ := by
  unfold Addr.add
  by_cases h : k = 0 <;> simp [h]
section
variable {H : Type} {enc : TypeId × Value → H} {W : World} {base : Nat} {spare : Nat → Bool} {held : Bool}
theorem trod_struct6 {t : TypeId} {f0 f1 f2 f3 f4 f5 : Field} {fuel : Nat} {cs : List Value} {x : DataW H × List MemPlace} {P : Program} (ht : P.underlying t = some (.struct #[f0, f1, f2, f3, f4, f5])) (h : DataW.trod enc P W base spare held fuel t cs = some x) :
    ∃ y0 y1 y2 y3 y4 y5 n, fuel = n + 1 ∧ cs.length = P.cellsOf t ∧ DataW.trod enc P W base spare held n f0.type ((cs.drop f0.offset).take (P.cellsOf f0.type)) = some y0 ∧
      DataW.trod enc P W base spare held n f1.type ((cs.drop f1.offset).take (P.cellsOf f1.type)) = some y1 ∧ DataW.trod enc P W base spare held n f2.type ((cs.drop f2.offset).take (P.cellsOf f2.type)) = some y2 ∧
      DataW.trod enc P W base spare held n f3.type ((cs.drop f3.offset).take (P.cellsOf f3.type)) = some y3 ∧ DataW.trod enc P W base spare held n f4.type ((cs.drop f4.offset).take (P.cellsOf f4.type)) = some y4 ∧
      DataW.trod enc P W base spare held n f5.type ((cs.drop f5.offset).take (P.cellsOf f5.type)) = some y5 := by
  obtain ⟨xs, n, hn, rfl, hl, hlen, hf⟩ := DataW.trod_struct ht h
  match xs, hlen with
  | [y0, y1, y2, y3, y4, y5], _ => exact ⟨y0, y1, y2, y3, y4, y5, n, hn, hl, by simpa using hf 0 f0 rfl, by simpa using hf 1 f1 rfl, by simpa using hf 2 f2 rfl, by simpa using hf 3 f3 rfl, by simpa using hf 4 f4 rfl, by simpa using hf 5 f5 rfl⟩
theorem list2 {α : Type} {l : List α} (h : l.length = 2) : ∃ a b, l = [a, b] := by
  match l, h with
  | [a, b], _ => exact ⟨a, b, rfl⟩
theorem list4 {α : Type} {l : List α} (h : l.length = 4) : ∃ a b c d, l = [a, b, c, d] := by
  match l, h with
  | [a, b, c, d], _ => exact ⟨a, b, c, d, rfl⟩
theorem list12 {α : Type} {l : List α} (h : l.length = 12) : ∃ a b c d e f g i j k m n, l = [a, b, c, d, e, f, g, i, j, k, m, n] := by
  match l, h with
  | [a, b, c, d, e, f, g, i, j, k, m, n], _ => exact ⟨a, b, c, d, e, f, g, i, j, k, m, n, rfl⟩
set_option maxRecDepth 100000 in
theorem cell_trod {fuel : Nat} {cs : List Value} {x : DataW H × List MemPlace} (h : DataW.trod enc Tryz.prog W base spare held fuel 23 cs = some x) :
    ∃ c r : Int, cs = [.int .i64 c, .int .i64 r] := by
  obtain ⟨y0, y1, n, rfl, hl, h0, h1⟩ := trod_struct2 Tryz.underlying23 h
  obtain ⟨a, b, rfl⟩ := list2 (hl.trans cof23)
  simp only [cof3, List.drop_zero, List.drop_succ_cons, List.take_succ_cons, List.take_zero] at h0 h1
  obtain ⟨c, e0, rfl, w0⟩ := DataW.trod_int Tryz.underlying3 h0
  obtain ⟨r, e1, rfl, w1⟩ := DataW.trod_int Tryz.underlying3 h1
  simp at e0 e1
  subst e0 e1
  exact ⟨c, r, rfl⟩
set_option maxRecDepth 100000 in
theorem ref_trod {fuel : Nat} {cs : List Value} {x : DataW H × List MemPlace} (h : DataW.trod enc Tryz.prog W base spare held fuel 25 cs = some x) :
    ∃ r : Rf, cs = [.int .i64 r.c, .int .i64 r.r, .bool r.fc, .bool r.fr] := by
  obtain ⟨y0, y1, y2, n, hx, hl, h0, h1, h2⟩ := Go.Deep.trod_struct3 Tryz.underlying25 h
  obtain ⟨a0, a1, a2, a3, rfl⟩ := list4 (hl.trans cof25)
  simp only [cof23, cof4, List.drop_zero, List.drop_succ_cons, List.take_succ_cons, List.take_zero] at h0 h1 h2
  obtain ⟨c, r, e0⟩ := cell_trod h0
  obtain ⟨fc, e1, rfl⟩ := DataW.trod_bool Tryz.underlying4 h1
  obtain ⟨fr, e2, rfl⟩ := DataW.trod_bool Tryz.underlying4 h2
  simp at e0 e1 e2
  obtain ⟨rfl, rfl⟩ := e0
  subst e1 e2
  exact ⟨⟨c, r, fc, fr⟩, rfl⟩
set_option maxRecDepth 100000 in
/-- A node's cells, read: a tree. -/
theorem node_trod (fuel : Nat) : ∀ {cs : List Value} {x : DataW H × List MemPlace}, DataW.trod enc Tryz.prog W 0 spare held fuel 28 cs = some x →
    ∃ (k n : Int) (s : ByteArray) (r t : Rf) (p : Option Addr) (m c : Nat) (T0 : T), cs = (N12 k n s r t (.slice p m c)).toList ∧ Nd W (fun b => b < W.heap.size) (NV k n s r t (.slice p m c)) T0 ∧ Ok T0 := by
  induction fuel using Nat.strongRecOn with
  | ind fuel ih =>
  intro cs x h
  obtain ⟨y0, y1, y2, y3, y4, y5, n, hfu, hl, h0, h1, h2, h3, h4, h5⟩ := trod_struct6 Tryz.underlying28 h
  obtain ⟨a0, a1, a2, a3, a4, a5, a6, a7, a8, a9, a10, a11, rfl⟩ := list12 (hl.trans cof28)
  simp only [cof3, cof9, cof25, cof26, List.drop_zero, List.drop_succ_cons, List.take_succ_cons, List.take_zero] at h0 h1 h2 h3 h4 h5
  obtain ⟨k, e0, -, w0⟩ := DataW.trod_int Tryz.underlying3 h0
  obtain ⟨m, e1, -, w1⟩ := DataW.trod_int Tryz.underlying3 h1
  obtain ⟨s, e2, -, w2⟩ := DataW.trod_string Tryz.underlying9 h2
  obtain ⟨r, e3⟩ := ref_trod h3
  obtain ⟨t, e4⟩ := ref_trod h4
  simp only [List.cons.injEq, and_true] at e0 e1 e2 e3 e4
  obtain ⟨e30, e31, e32, e33⟩ := e3
  obtain ⟨e40, e41, e42, e43⟩ := e4
  subst e0 e1 e2 e30 e31 e32 e33 e40 e41 e42 e43
  have hm := bounds_i64 w1
  rcases DataW.trod_slice Tryz.underlying26 h5 with ⟨e5, -⟩ | ⟨a, len, cap, elems, rest, n', hn', e5, -, -, hlc, hcm, hlen, hel, -, -⟩
  · simp only [List.cons.injEq, and_true] at e5
    subst e5
    exact ⟨k, m, s, r, t, none, 0, 0, _, rfl, .leaf, .mk (by omega) (Nat.zero_le _) (fun i u hu => by simp at hu)⟩
  simp only [List.cons.injEq, and_true] at e5
  subst e5
  rw [cof28] at hel
  haveI hinh : Inhabited T := ⟨.nd 0 0 nul .z .z []⟩
  obtain ⟨F, hF⟩ := Go.Deep.choose_lt (α := Value × T) (n := len) (p := fun i y => W.cells? 0 (a.add (i * 12)) 12 = some y.1.cells.toList ∧ Nd W (fun b => b < W.heap.size) y.1 y.2 ∧ Ok y.2) (fun i hi => by
    have e := hel i hi
    rw [List.getElem?_eq_getElem (by omega)] at e
    obtain ⟨cs', g1, g2⟩ := Option.bind_eq_some_iff.1 e
    obtain ⟨k', n2, s', r', t', p', m', c', T', rfl, hN, hO⟩ := ih n' (by omega) g2
    exact ⟨(NV k' n2 s' r' t' (.slice p' m' c'), T'), g1, hN, hO⟩)
  have hus : ∀ (i : Nat) u, ((List.range len).map fun i => (F i).1)[i]? = some u → i < len ∧ u = (F i).1 := fun i u hu => by
    simp only [List.getElem?_map, Option.map_eq_some_iff] at hu
    obtain ⟨j, hj, rfl⟩ := hu
    have hj' := List.getElem?_eq_some_iff.1 hj
    obtain ⟨hlt, hj2⟩ := hj'
    rw [List.getElem_range] at hj2
    subst hj2
    exact ⟨by simpa using hlt, rfl⟩
  have hts : ∀ (i : Nat) u, ((List.range len).map fun i => (F i).2)[i]? = some u → i < len ∧ u = (F i).2 := fun i u hu => by
    simp only [List.getElem?_map, Option.map_eq_some_iff] at hu
    obtain ⟨j, hj, rfl⟩ := hu
    have hj' := List.getElem?_eq_some_iff.1 hj
    obtain ⟨hlt, hj2⟩ := hj'
    rw [List.getElem_range] at hj2
    subst hj2
    exact ⟨by simpa using hlt, rfl⟩
  refine ⟨k, m, s, r, t, some a, len, cap, .nd k m s r t ((List.range len).map fun i => (F i).2), rfl, .mk (us := (List.range len).map fun i => (F i).1) ⟨by simp, ?_⟩ (by simp) (fun i u t' q1 q2 => ?_), .mk (by omega) (by
    have : maxLen = 9223372036854775807 := rfl
    simp
    omega) (fun i u hu => ?_)⟩
  · by_cases h0 : len = 0
    · exact .inl ⟨rfl, h0, rfl⟩
    right
    have h12 : ∀ i, i < len → (F i).1.cells.toList.length = 12 := fun i hi => (hF i hi).2.1.twelve
    have hc0 : ∀ i, i < len → ∀ j, j < 12 → W.cell? (a.add (i * 12 + j)) = (F i).1.cells.toList[j]? := fun i hi j hj => by
      have := (World.cells?_some (hF i hi).1).2.2 j hj
      rw [Go.Deep.add_add] at this
      exact this
    have hsp : W.cell? a = some ((F 0).1.cells.toList[0]'(by rw [h12 0 (by omega)]; omega)) := by
      have := hc0 0 (by omega) 0 (by omega)
      rw [List.getElem?_eq_getElem (by rw [h12 0 (by omega)]; omega)] at this
      simpa [Addr.add] using this
    have hspot := World.cell?_spot hsp
    obtain ⟨g, o, sp⟩ := a
    simp only at hspot
    subst hspot
    refine ⟨g, o, rfl, hlc, ?_, fun q y hy => ?_⟩
    · unfold World.cell? at hsp
      rcases Nat.lt_or_ge g W.heap.size with h | h
      · exact h
      · rw [Array.getElem?_eq_none h] at hsp
        simp at hsp
    · obtain ⟨u, hu, hx⟩ := cellsL_get _ (fun i u hu => by obtain ⟨hi, rfl⟩ := hus i u hu; exact h12 i hi) q y hy
      obtain ⟨hi, rfl⟩ := hus _ _ hu
      have := hc0 (q / 12) hi (q % 12) (by omega)
      rw [hx, add_plain, show q / 12 * 12 + q % 12 = q by omega] at this
      exact this
  · obtain ⟨hi, rfl⟩ := hus i u q1
    obtain ⟨-, rfl⟩ := hts i t' q2
    exact (hF i hi).2.1
  · obtain ⟨hi, rfl⟩ := hts i u hu
    exact (hF i hi).2.2
set_option maxRecDepth 100000 in
theorem open_node {r0 : Reach} {b0 : Nat} {v : Value} {d : DataW H} {q : List MemPlace} (hv : Value.okWide Tryz.prog W r0 b0 28 v) (h : DataW.Trod enc Tryz.prog W 0 spare held 28 v d q) :
    ∃ (k n : Int) (s : ByteArray) (r t : Rf) (p : Option Addr) (m c : Nat) (T0 : T), v = NV k n s r t (.slice p m c) ∧ Nd W (fun b => b < W.heap.size) (NV k n s r t (.slice p m c)) T0 ∧ Ok T0 := by
  obtain ⟨cs, rfl, hsz⟩ := okWide_struct Tryz.underlying28 hv
  obtain ⟨fuel, hf⟩ := h
  obtain ⟨k, n, s, r, t, p, m, c, T0, e, hN, hO⟩ := node_trod fuel hf
  refine ⟨k, n, s, r, t, p, m, c, T0, ?_, hN, hO⟩
  simp only [Value.cells] at e
  obtain ⟨l⟩ := cs
  have e' : l = (N12 k n s r t (.slice p m c)).toList := by simpa using e
  subst e'
  rfl
end
end Go.Proofs.YtimagcmmaffpjaaGreatDoor.fm
