
/- Who is like one ahead: the rows that are left, and a row of truths. Nothing is walked here. Conditions: as each theorem says. -/
import Derived.Test.YtehamdkjdbaceaaSf
namespace Go.Proofs.Ytehamdkjdbaceaa.so
open Go.RowKit Go.Sort Go.Shelf
theorem dst_mem {T : Tb} {n : Nat} {c : Nat → Int} {j : Nat} {x : Int} : x ∈ dst T n c j ↔ ∃ k : Nat, x = (k : Int) ∧ k < j ∧ likeA T n c k = false := by
  induction j with
  | zero => simp [dst]
  | succ j ih =>
    cases h : likeA T n c j with
    | true =>
      rw [dst_yes h, ih]
      constructor
      · rintro ⟨k, a, b, d⟩; exact ⟨k, a, by omega, d⟩
      · rintro ⟨k, a, b, d⟩
        refine ⟨k, a, ?_, d⟩
        rcases Nat.lt_or_ge k j with h' | h'
        · exact h'
        · have : k = j := by omega
          subst this; rw [h] at d; cases d
    | false =>
      rw [dst_no h, List.mem_append, ih, List.mem_singleton]
      constructor
      · rintro (⟨k, a, b, d⟩ | a)
        · exact ⟨k, a, by omega, d⟩
        · exact ⟨j, a, by omega, h⟩
      · rintro ⟨k, a, b, d⟩
        rcases Nat.lt_or_ge k j with h' | h'
        · exact .inl ⟨k, a, h', d⟩
        · have : k = j := by omega
          subst this; exact .inr a
theorem dst_pw (T : Tb) (n : Nat) (c : Nat → Int) (j : Nat) : (dst T n c j).Pairwise (· < ·) := by
  induction j with
  | zero => simp [dst]
  | succ j ih =>
    cases h : likeA T n c j with
    | true => rw [dst_yes h]; exact ih
    | false =>
      rw [dst_no h, List.pairwise_append]
      refine ⟨ih, by simp, fun a ha b hb => ?_⟩
      rw [List.mem_singleton] at hb
      obtain ⟨k, e, hk, -⟩ := dst_mem.1 ha
      omega
/-- The number at a place. -/
abbrev nth (l : List Int) (i : Nat) : Int := l.getD i 0
theorem nth_mem {l : List Int} {i : Nat} (h : i < l.length) : nth l i ∈ l := by
  unfold nth
  rw [List.getD_eq_getElem?_getD, List.getElem?_eq_getElem h]
  simp
theorem nth_lt {l : List Int} (hp : l.Pairwise (· < ·)) {i k : Nat} (hk : k < l.length) (h : i < k) : nth l i < nth l k := by
  unfold nth
  rw [List.getD_eq_getElem?_getD, List.getD_eq_getElem?_getD, List.getElem?_eq_getElem hk, List.getElem?_eq_getElem (Nat.lt_trans h hk)]
  exact List.pairwise_iff_getElem.1 hp i k _ _ h
theorem mem_nth {l : List Int} {x : Int} (h : x ∈ l) : ∃ i, i < l.length ∧ nth l i = x := by
  obtain ⟨i, hi, e⟩ := List.getElem_of_mem h
  exact ⟨i, hi, by unfold nth; rw [List.getD_eq_getElem?_getD, List.getElem?_eq_getElem hi]; simpa using e⟩
theorem Vl.zero_sym {x y : Vl} (h : x.cmp y = 0) : y.cmp x = 0 := by rw [Vl.cmp_neg, h]; rfl
theorem Vl.zero_trans {x y z : Vl} (h1 : x.cmp y = 0) (h2 : y.cmp z = 0) : x.cmp z = 0 := by
  have a := Vl.cmp_trans (x := x) (y := y) (z := z) (by omega) (by omega)
  have b := Vl.cmp_trans (x := z) (y := y) (z := x) (by rw [Vl.zero_sym h2]; omega) (by rw [Vl.zero_sym h1]; omega)
  have := Vl.cmp_neg x z
  omega
theorem alk_sym {a b : Nat → Vl} {n : Nat} {c : Nat → Int} (h : alk a b n c = true) : alk b a n c = true := alk_true.2 fun i hi => Vl.zero_sym (alk_true.1 h i hi)
theorem alk_trans {a b d : Nat → Vl} {n : Nat} {c : Nat → Int} (h : alk a b n c = true) (h2 : alk b d n c = true) : alk a d n c = true := alk_true.2 fun i hi => Vl.zero_trans (alk_true.1 h i hi) (alk_true.1 h2 i hi)
/-- Is a row like one ahead that is left? -/
def likeB (T : Tb) (n : Nat) (c : Nat → Int) (i m : Nat) : Bool := (List.range m).any fun k => !likeA T n c k && alk (T.v i) (T.v k) n c
theorem likeB_succ (T : Tb) (n : Nat) (c : Nat → Int) (i m : Nat) : likeB T n c i (m + 1) = (likeB T n c i m || (!likeA T n c m && alk (T.v i) (T.v m) n c)) := by
  unfold likeB
  rw [List.range_succ, List.any_append]
  simp
theorem likeB_is (T : Tb) (n : Nat) (c : Nat → Int) (i : Nat) : likeB T n c i i = likeA T n c i := by
  rw [Bool.eq_iff_iff, likeA_true]
  unfold likeB
  rw [List.any_eq_true]
  constructor
  · rintro ⟨k, hk, h⟩
    rw [Bool.and_eq_true] at h
    exact ⟨k, List.mem_range.1 hk, alk_sym h.2⟩
  · rintro ⟨k, hk, h⟩
    induction k using Nat.strongRecOn with
    | ind k ih =>
      cases hl : likeA T n c k with
      | false => exact ⟨k, List.mem_range.2 hk, by rw [hl, alk_sym h]; rfl⟩
      | true =>
        obtain ⟨m, hm, h'⟩ := likeA_true.1 hl
        exact ih m hm (by omega) (alk_trans h' h)
/-- A row of truths in a block of its own. -/
def BA (w : World) (g q : Nat) (f : Nat → Bool) : Prop := w.heap[g]? = some (.cells ((List.range q).map fun i => Value.bool (f i)).toArray 4 (0, 0))
theorem BA.at {w : World} {g q : Nat} {f : Nat → Bool} (h : BA w g q f) {i : Nat} (hi : i < q) : w.cell? ⟨g, i, none⟩ = some (.bool (f i)) := by
  unfold BA at h
  simp only [World.cell?, h]
  simp [hi]
theorem BA.lt {w : World} {g q : Nat} {f : Nat → Bool} (h : BA w g q f) : g < w.heap.size := (Array.getElem?_eq_some_iff.1 h).1
theorem BA.fz {w : World} {g q : Nat} {f : Nat → Bool} (h : BA w g q f) (i : Nat) : w.frozen? ⟨g, i, none⟩ = false := by
  unfold BA at h
  unfold World.frozen?
  simp [h]
theorem BA.next {w w' : World} {g q : Nat} {f : Nat → Bool} (h : BA w g q f) (hb : Bw w w') : BA w' g q f := by
  unfold BA
  rw [hb.block g h.lt]
  exact h
theorem blk_set {w : World} {b o : Nat} {cs : Array Value} {u : Value} {t : TypeId} {f : Nat × Nat} (h : w.heap[b]? = some (.cells cs t f)) : (w.setCell ⟨b, o, none⟩ u).heap[b]? = some (.cells (cs.setIfInBounds o u) t f) := by
  have hlt := (Array.getElem?_eq_some_iff.1 h).1
  have h' : w.heap[b] = .cells cs t f := by simpa [Array.getElem?_eq_getElem hlt] using h
  show (w.heap.modify b _)[b]? = _
  rw [Array.getElem?_eq_getElem (by simpa using hlt), Array.getElem_modify_self, h']
  rfl
theorem BA.set {w : World} {g q : Nat} {f : Nat → Bool} (h : BA w g q f) (k : Nat) (b : Bool) : BA (w.setCell ⟨g, k, none⟩ (.bool b)) g q (fun i => if i = k then b else f i) := by
  unfold BA
  rw [blk_set (o := k) (u := .bool b) h]
  congr 2
  apply Array.ext'
  rw [Array.toList_setIfInBounds]
  apply List.ext_getElem?
  intro i
  rw [List.getElem?_set]
  simp only [List.getElem?_map, List.length_map, List.length_range]
  by_cases e : k = i
  · subst e
    by_cases hk : k < q
    · simp [hk]
    · simp [hk]
  · by_cases hi : i < q
    · simp [e, hi, Ne.symm e]
    · simp [e, hi]
theorem info4 : (Try.prog.info? 4).map (fun i => (i.zero, i.size, i.bytes)) = some (some (.bool false), 1, 1) := by kernel_rfl
theorem make_bools (n : Nat) (hn : n ≤ 100000) (w : World) : (Instr.makeSlice 35 (.int .i64 (n : Int)) (.int .i64 (n : Int))).run Try.prog w = .ok (.slice (some ⟨w.heap.size, 0, none⟩) n n) (w.alloc (.cells (madeCells #[.bool false] n) 4)) := by
  obtain ⟨i0, hi, hz0, hz1, hz2⟩ := info_parts info4
  have := run_make (P := Try.prog) w 35 4 i0 _ Try.underlying35 hi hz0 .i64 .i64 (n : Int) (n : Int) (by omega) (by omega) (by rw [hz2]; omega) (by omega)
  rw [this, hz1]
  simp [Value.cells]
theorem BA.new (w : World) (n : Nat) : BA (w.alloc (.cells (madeCells #[.bool false] n) 4)) w.heap.size n (fun _ => false) := by
  unfold BA
  rw [heap_alloc_new]
  congr 2
  apply Array.ext'
  apply List.ext_getElem?
  intro i
  have e : ∀ x : Nat, ([Value.bool false] : List Value)[x % 1]?.getD default = Value.bool false := fun x => by rw [Nat.mod_one]; rfl
  simp [madeCells, e]
end Go.Proofs.Ytehamdkjdbaceaa.so
