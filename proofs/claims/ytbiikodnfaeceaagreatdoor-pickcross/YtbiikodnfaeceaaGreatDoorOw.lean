
/- Package eval: Sum. Conditions: as each theorem says. -/
import Derived.Test.YtbiikodnfaeceaaGreatDoorOv
import Derived.Test.YtbiikodnfaeceaaGreatDoorSz
import Derived.Laws.EntriesVeiled
namespace Go.Proofs.YtbiikodnfaeceaaGreatDoor.so
open Go.RowKit Go.Shelf
attribute [local go_sem] Oper.semAt_some
def uptoV (X : Nat → Vl) (n : Nat) : List Vl := (List.range n).map X
theorem uptoV_succ (X : Nat → Vl) (n : Nat) : uptoV X (n + 1) = uptoV X n ++ [X n] := by simp [uptoV, List.range_succ]
theorem uptoV_len (X : Nat → Vl) (n : Nat) : (uptoV X n).length = n := by simp [uptoV]
theorem uptoV_pre (X : Nat → Vl) {m n : Nat} (h : m ≤ n) : uptoV X m <+: uptoV X n := by
  obtain ⟨k, rfl⟩ := Nat.exists_eq_add_of_le h
  clear h
  induction k with
  | zero => exact List.prefix_rfl
  | succ k ih => rw [Nat.add_succ, uptoV_succ]; exact ih.trans (List.prefix_append _ _)
theorem yes_no {e : Ending} {p q : Prop} (h : (e = .returned (.bool true) ∧ p) ∨ (e = .returned (.bool false) ∧ q)) : ∃ b, e = .returned (.bool b) ∧ ((b = true ∧ p) ∨ (b = false ∧ q)) := by
  rcases h with ⟨h, h2⟩ | ⟨h, h2⟩
  · exact ⟨true, h, .inl ⟨rfl, h2⟩⟩
  · exact ⟨false, h, .inr ⟨rfl, h2⟩⟩
theorem grown_of {W W' : World} (h : Below W.heap.size W W') : W.grownBy W' none := ⟨h.os, h.tape, h.output, h.size, fun k hk _ => h.block k hk⟩
set_option maxRecDepth 100000 in
set_option maxHeartbeats 4000000 in
theorem sumseq_in (n : Nat) (hn : 1 ≤ n) (p : Option Addr) (q c : Nat) (hq : q ≤ 1000000) (X : Nat → Vl) (bx : Nat) (w : World) (hx : Bx w bx (.slice p q c)) (hv : VM w p q X)
    (l : Nat) (J Jx : List Vl → World → Prop) (W : World) (hW : Below w.heap.size w W) (hJ : OwnFrom W.heap.size J)
    (hY : ∀ pre x W1, J pre W1 → pre.length < q → YieldAt Fence.wide (n - 1) Tryz.prog l (Vl.enc x) W1 fun e W' =>
      KeepsFrom W.heap.size W1 W' ∧ ((e = .returned (.bool true) ∧ J (pre ++ [x]) W' ∧ KC w.heap.size W1 W') ∨ (e = .returned (.bool false) ∧ Jx (pre ++ [x]) W')))
    (h0 : J [] W) :
    CallsIn Fence.wide n Tryz.prog 54 #[.func (.yield l) #[] #[], .pointer (some ⟨bx, 0, none⟩)] W fun e W' => (∃ v, e = .returned v) ∧
      ((∃ ys, ys = uptoV X q ∧ J ys W') ∨ (∃ pre, pre <+: uptoV X q ∧ Jx pre W')) := by
  refine callsIn_of_wp Tryz.func54 rfl trivial ?_ rfl
  simp only [Tryz.ntmps54, List.size_toArray, List.length_cons, List.length_nil, Nat.reduceAdd, Nat.reduceSub, Array.replicate_succ, Array.replicate_zero, List.push_toArray, List.append_toArray, List.nil_append, List.cons_append]
  have HV : Hid (VM w p q X) := hv
  have y0 : W.cell? ⟨bx, 0, none⟩ = some (.slice p q c) := (hW.cell (p := ⟨bx, 0, none⟩) hx.2).trans hx.1
  clear hv hx
  have hd : 1 ≤ n := hn
  gi_wp2_with fail
  gi_loopw [7] (fun n7 wr => ∃ j : Nat, j ≤ q ∧ n7 = .int .i64 j ∧ J (uptoV X j) wr ∧ Below w.heap.size w wr) (fun i _ => q - (intOf i).toNat)
  case atStart => exact ⟨0, Nat.zero_le _, rfl, h0, hW⟩
  case round =>
    obtain ⟨j, hj, rfl, hJs, hbs⟩ := hrel
    clear y0
    by_cases hlt : j < q
    · have hlt' : (j : Int) < (q : Int) := by omega
      have hj0 : (0 : Int) ≤ (j : Int) := by omega
      have hq' : (q : Int) ≤ 1000000 := by omega
      rcases HV.out.next hbs with h | ⟨g, o, rfl, hg, h3⟩
      · omega
      obtain ⟨z0, z1, z2⟩ := h3 j hlt
      clear h3 hg
      obtain ⟨x, hx⟩ : ∃ x, X j = x := ⟨_, rfl⟩
      have HX : Hid (X j = x) := hx
      rw [hx] at z0 z1 z2
      clear hx
      obtain ⟨xk, xn, xs⟩ := x
      dsimp only at z0 z1 z2
      have hB1 : Below w.heap.size w (wr.alloc (.cells #[.int .i64 xk, .int .i64 xn, .string xs] 36)) := hbs.alloc hbs.size _
      have hJ1 : J (uptoV X j) (wr.alloc (.cells #[.int .i64 xk, .int .i64 xn, .string xs] 36)) := hJ _ wr _ none hJs (World.grownBy_alloc wr _ none) (fun r e => by cases e)
      obtain ⟨fn, tmps, assign, body, hy, hRd⟩ := hY _ ⟨xk, xn, xs⟩ _ hJ1 (by rw [uptoV_len]; exact hlt)
      dsimp only [Vl.enc] at hy
      gi_wp2_with fail
      refine hRd.mono ?_
      intro e W3 hcase
      obtain ⟨b, rfl, hcb⟩ := yes_no hcase.2
      clear hy hRd hcase z0 z1 z2
      rcases hcb with ⟨rfl, hJ4, hk4⟩ | ⟨rfl, hJx4⟩
      · gi_wp2_with fail
        exact ⟨⟨j + 1, hlt, by simp, by rw [uptoV_succ, HX.out]; exact hJ4, hB1.trans hk4.below⟩, by simp [intOf]; omega⟩
      · gi_wp2_with fail
        refine bodyPost_ret (results_none rfl _ _ _) rfl ?_
        exact ⟨⟨_, rfl⟩, .inr ⟨_, by rw [← HX.out, ← uptoV_succ]; exact uptoV_pre X (by omega), hJx4⟩⟩
    · obtain rfl : j = q := by omega
      gi_wp2
      go_end0
      exact ⟨⟨_, rfl⟩, .inl ⟨_, rfl, hJs⟩⟩
theorem sumseq (n : Nat) (hn : 1 ≤ n) (p : Option Addr) (q c : Nat) (hq : q ≤ 1000000) (X : Nat → Vl) (bx : Nat) (w : World) (hx : Bx w bx (.slice p q c)) (hv : VM w p q X) :
    rb.SeqB Fence.wide n Tryz.prog 54 #[] #[.pointer (some ⟨bx, 0, none⟩)] Vl.enc (KC w.heap.size) (fun ys => ys = uptoV X q) (fun pre => pre <+: uptoV X q) (uptoV X q).length w := fun l J Jx W hW hJ _ hY h0 =>
  sumseq_in n hn p q c hq X bx w hx hv l J Jx W hW hJ (fun pre x W1 q1 q2 => hY pre x W1 q1 (by rw [uptoV_len]; exact q2)) h0
theorem isNum_any (k : Int) (w : World) : Calls Tryz.prog 74 #[.int .i64 k] w fun e w' => e = .returned (.bool (ctN k)) ∧ Below w.heap.size w w' := by
  unfold ctN
  go_enter Tryz.func74, Tryz.ntmps74
  go_wp2_with fail
  go_ret
  exact ⟨rfl, Below.refl _ _⟩
/-- The sum of some values: the first that is bad, or what the numbers among them come to. -/
def sumV : List Vl → List Int → Vl
  | [], ns => sumL ns
  | x :: xs, ns => if (x.k == 4) = true then x else if (x.k == 1) = true then sumV xs (ns ++ [x.n]) else sumV xs ns
theorem sumV_good : ∀ (xs : List Vl) (ns : List Int), (∀ y ∈ xs, good (fun k n s => ⟨k, n, s⟩) ctN y = true) → sumV xs ns = sumL (ns ++ ovN (fun k n s => ⟨k, n, s⟩) ctN xs)
  | [], ns, _ => by simp [sumV, ovN]
  | x :: xs, ns, h => by
    have hx := h x (by simp)
    have h4 : (x.k == 4) = false := by
      unfold good skp at hx
      cases e : (x.k == 4) with
      | false => rfl
      | true => simp [e] at hx
    unfold sumV
    rw [if_neg (by simp [h4])]
    cases e : (x.k == 1) with
    | true =>
      rw [if_pos rfl, sumV_good xs _ (fun y hy => h y (by simp [hy]))]
      have : skp ctN x = false := by unfold skp ctN; simp [e]
      simp [ovN, this]
    | false =>
      rw [if_neg (by simp), sumV_good xs _ (fun y hy => h y (by simp [hy]))]
      have : skp ctN x = true := by unfold skp ctN; simp [e, h4]
      simp [ovN, this]
theorem sumV_bad : ∀ (pre : List Vl) (x : Vl) (xs : List Vl) (ns : List Int), (pre ++ [x]) <+: xs → (∀ y ∈ pre, good (fun k n s => ⟨k, n, s⟩) ctN y = true) → good (fun k n s => ⟨k, n, s⟩) ctN x = false → sumV xs ns = x
  | [], x, xs, ns, hp, _, hx => by
    obtain ⟨t, rfl⟩ := hp
    have h4 : (x.k == 4) = true := by
      unfold good skp at hx
      cases e : (x.k == 4) with
      | true => rfl
      | false => simp [e] at hx
    show sumV (x :: t) ns = x
    unfold sumV
    rw [if_pos h4]
  | y :: pre, x, xs, ns, hp, hg, hx => by
    obtain ⟨t, rfl⟩ := hp
    have hy := hg y (by simp)
    have h4 : (y.k == 4) = false := by
      unfold good skp at hy
      cases e : (y.k == 4) with
      | false => rfl
      | true => simp [e] at hy
    show sumV (y :: (pre ++ [x] ++ t)) ns = x
    unfold sumV
    rw [if_neg (by simp [h4])]
    split
    · exact sumV_bad pre x _ _ ⟨t, rfl⟩ (fun z hz => hg z (by simp [hz])) hx
    · exact sumV_bad pre x _ _ ⟨t, rfl⟩ (fun z hz => hg z (by simp [hz])) hx
abbrev fover (pc pr pw : Nat) : Value := .func (.func 106) #[] #[.pointer (some ⟨pc, 0, none⟩), .pointer (some ⟨pr, 0, none⟩), .pointer (some ⟨pw, 0, none⟩)]
theorem over_made (w : World) : Calls Tryz.prog 75 #[.func (.func 74) #[] #[], .func (.func 76) #[] #[], .func (.func 53) #[] #[]] w fun e w' => ∃ pc pr pw, e = .returned (fover pc pr pw) ∧ Boxed w' pc 71 (.func (.func 74) #[] #[]) ∧ Boxed w' pr 106 (.func (.func 76) #[] #[]) ∧ Boxed w' pw 61 (.func (.func 53) #[] #[]) ∧ Bw w w' := by
  go_enter Tryz.func75, Tryz.ntmps75
  go_wp2_with fail
  go_ret
  have b1 := Boxed.new w 71 (.func (.func 74) #[] #[])
  have b2 := Boxed.new (w.alloc (.cells #[.func (.func 74) #[] #[]] 71)) 106 (.func (.func 76) #[] #[])
  have b3 := Boxed.new ((w.alloc (.cells #[.func (.func 74) #[] #[]] 71)).alloc (.cells #[.func (.func 76) #[] #[]] 106)) 61 (.func (.func 53) #[] #[])
  have e1 : (w.alloc (.cells #[.func (.func 74) #[] #[]] 71)).heap.size = w.heap.size + 1 := by simp
  have e2 : ((w.alloc (.cells #[.func (.func 74) #[] #[]] 71)).alloc (.cells #[.func (.func 76) #[] #[]] 106)).heap.size = w.heap.size + 2 := by simp
  rw [e1] at b2
  rw [e2] at b3
  exact ⟨w.heap.size, w.heap.size + 1, w.heap.size + 2, by simp, bkA (bkA b1 _) _, bkA b2 _, b3, ((Bw.al _ _).tr (Bw.al _ _)).tr (Bw.al _ _)⟩
theorem overNumbers_any (w : World) : Calls Tryz.prog 52 #[.func (.func 53) #[] #[]] w fun e w' => ∃ pc pr pw, e = .returned (fover pc pr pw) ∧ Boxed w' pc 71 (.func (.func 74) #[] #[]) ∧ Boxed w' pr 106 (.func (.func 76) #[] #[]) ∧ Boxed w' pw 61 (.func (.func 53) #[] #[]) ∧ Bw w w' := by
  have H := over_made w
  go_enter Tryz.func52, Tryz.ntmps52
  go_wp2_with fail
  refine H.mono ?_
  clear H
  rintro e w1 ⟨pc, pr, pw, rfl, h1, h2, h3, h4⟩
  have HH : Hid (Boxed w1 pc 71 (.func (.func 74) #[] #[]) ∧ Boxed w1 pr 106 (.func (.func 76) #[] #[]) ∧ Boxed w1 pw 61 (.func (.func 53) #[] #[]) ∧ Bw w w1) := ⟨h1, h2, h3, h4⟩
  clear h1 h2 h3 h4
  go_wp2_with fail
  go_ret
  exact ⟨pc, pr, pw, rfl, HH.out.1, HH.out.2.1, HH.out.2.2.1, HH.out.2.2.2⟩
set_option maxRecDepth 100000 in
set_option maxHeartbeats 4000000 in
theorem esum_any (p : Option Addr) (q c : Nat) (hq : q ≤ 1000000) (X : Nat → Vl) (w : World) (hv : VM w p q X) (hb : ∀ i, i < q → B64 (X i).n) :
    Calls Tryz.prog 38 #[.slice p q c] w fun e w' => e = .returned (V (sumV (uptoV X q) []).k (sumV (uptoV X q) []).n (sumV (uptoV X q) []).s) ∧ Bw w w' := by
  obtain ⟨r, hr⟩ : ∃ r, sumV (uptoV X q) [] = r := ⟨_, rfl⟩
  have HO : Hid (∀ pc pr pw bx wx, Bw w wx → Bx wx bx (.slice p q c) → Boxed wx pc 71 (.func (.func 74) #[] #[]) → Boxed wx pr 106 (.func (.func 76) #[] #[]) → Boxed wx pw 61 (.func (.func 53) #[] #[]) →
      Calls Tryz.prog 106 #[.func (.func 54) #[] #[.pointer (some ⟨bx, 0, none⟩)], .pointer (some ⟨pc, 0, none⟩), .pointer (some ⟨pr, 0, none⟩), .pointer (some ⟨pw, 0, none⟩)] wx fun e w' => e = .returned (V r.k r.n r.s) ∧ Bw wx w') := fun pc pr pw bx wx hbw hx h1 h2 h3 =>
    over_nm (fun k n s => ⟨k, n, s⟩) (uptoV X q) (by rw [uptoV_len]; exact hq) #[.pointer (some ⟨bx, 0, none⟩)] 53 pc pr pw r wx h1 h2 h3 (fun v wy => enters_of Tryz.func53 (by kernel_rfl) rfl _ _) (sumseq 4 (by omega) p q c hq X bx wx hx (hv.next hbw)) isBad_any isNum_any
      (fun k n s wy hk _ => num14 k (by rcases hk with h | h; exact .inr (by simpa using h); exact .inl (by simpa [ctN] using h)) n s wy)
      (fun pre x hp hg hx => by rw [← hr]; exact sumV_bad pre x _ _ hp hg hx)
      (fun hg wy v hby hown => by
        have e : r = sumL (ovN (fun k n s => ⟨k, n, s⟩) ctN (uptoV X q)) := by rw [← hr, sumV_good _ _ hg]; simp
        rw [e]
        refine sum_any _ (fun n hn => ?_) wx.heap.size v wy hown (Nat.le_trans (ovN_len _ _ _) (by rw [uptoV_len]; exact hq))
        unfold ovN at hn
        obtain ⟨y, hy, rfl⟩ := List.mem_map.1 hn
        obtain ⟨hy, -⟩ := List.mem_filter.1 hy
        unfold uptoV at hy
        obtain ⟨i, hi, rfl⟩ := List.mem_map.1 hy
        exact hb i (List.mem_range.1 hi))
  rw [hr]
  clear hr hv hb
  obtain ⟨rk, rn, rs⟩ := r
  dsimp only at HO ⊢
  have HN : Hid (∀ wx, Calls Tryz.prog 52 #[.func (.func 53) #[] #[]] wx fun e w' => ∃ pc pr pw, e = .returned (fover pc pr pw) ∧ Boxed w' pc 71 (.func (.func 74) #[] #[]) ∧ Boxed w' pr 106 (.func (.func 76) #[] #[]) ∧ Boxed w' pw 61 (.func (.func 53) #[] #[]) ∧ Bw wx w') := overNumbers_any
  obtain ⟨W0, hW0⟩ : ∃ W, (w.alloc (.cells #[.slice p q c] 34)).alloc (.cells #[.int .i64 0, .int .i64 0, .string nul] 36) = W := ⟨_, rfl⟩
  have hq0 : W0.heap[w.heap.size + 1]? = some (.cells #[.int .i64 0, .int .i64 0, .string nul] 36 (0, 0)) := by
    have := heap_alloc_new (w.alloc (.cells #[.slice p q c] 34)) (.cells #[.int .i64 0, .int .i64 0, .string nul] 36)
    rw [hW0] at this
    simpa using this
  have HX0 : Hid (Bx W0 w.heap.size (.slice p q c)) := by
    rw [← hW0]
    have hb := Bw.al (w.alloc (.cells #[.slice p q c] 34)) (.cells #[.int .i64 0, .int .i64 0, .string nul] 36)
    exact ⟨(hb.cell (p := ⟨w.heap.size, 0, none⟩) (by simp)).trans (by simp), by simp; omega⟩
  have HB0 : Hid (Bw w W0) := by rw [← hW0]; exact (Bw.al _ _).tr (Bw.al _ _)
  have HQ0 : Hid (W0.heap[w.heap.size + 1]? = some (.cells #[.int .i64 0, .int .i64 0, .string nul] 36 (0, 0))) := hq0
  clear hq0
  go_enter Tryz.func38, Tryz.ntmps38
  go_wp2_with fail
  refine (HN.out _).mono ?_
  rintro e w1 ⟨pc, pr, pw, rfl, h1, h2, h3, h4⟩
  have HH : Hid (Calls Tryz.prog 106 #[.func (.func 54) #[] #[.pointer (some ⟨w.heap.size, 0, none⟩)], .pointer (some ⟨pc, 0, none⟩), .pointer (some ⟨pr, 0, none⟩), .pointer (some ⟨pw, 0, none⟩)] w1 fun e w' => e = .returned (V rk rn rs) ∧ Bw w1 w') := HO.out pc pr pw w.heap.size w1 (HB0.out.tr h4) ⟨(h4.cell (p := ⟨w.heap.size, 0, none⟩) HX0.out.2).trans HX0.out.1, Nat.lt_of_lt_of_le HX0.out.2 h4.size⟩ h1 h2 h3
  have HB1 : Hid (Bw w w1 ∧ w1.heap[w.heap.size + 1]? = some (.cells #[.int .i64 0, .int .i64 0, .string nul] 36 (0, 0))) := ⟨HB0.out.tr h4, bk HQ0.out h4⟩
  clear h1 h2 h3 h4 HN HO HX0 HB0 HQ0 hW0
  dsimp only [fover]
  go_wp2_with fail
  refine HH.out.mono ?_
  rintro e w2 ⟨rfl, h5⟩
  have h6 := bk HB1.out.2 h5
  have HB2 : Hid (Bw w w2) := HB1.out.1.tr h5
  clear h5 HB1 HH
  obtain ⟨⟨o0, o1, o2⟩, p0, p1, p2⟩ := cells3 h6
  clear h6
  go_wp2_with fail
  exact bodyPost_ret (v := V rk rn rs) (by simp [results, Tryz.results38, go_sem, o0, o1, o2]) rfl ⟨rfl, HB2.out.trans (below3 (by omega))⟩
end Go.Proofs.YtbiikodnfaeceaaGreatDoor.so
