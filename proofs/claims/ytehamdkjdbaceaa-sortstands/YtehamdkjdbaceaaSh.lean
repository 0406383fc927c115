
/- The law SortOnce. Conditions: as each theorem says. -/
import Derived.Test.YtehamdkjdbaceaaSj
namespace Go.Proofs.Ytehamdkjdbaceaa.so
open Go.RowKit Go.Sort Go.Shelf
theorem rnum_any (n : Int) (w : World) : Calls Try.prog 6 #[.int .i64 n] w fun e w' => e = .returned (V 1 n nul) ∧ Bw w w' := by
  go_enter Try.func6, Try.ntmps6
  go_wp2_with fail
  exact bodyPost_ret (v := V 1 n nul) (by simp [results, Try.results6, go_sem]) rfl ⟨rfl, (Below.refl _ _).alloc (Nat.le_refl _) _⟩
/-- A table of two rows of one value. -/
def two (b0 b1 : Nat) (x y : Vl) : Tb := ⟨2, fun i => some ⟨if i = 0 then b0 else b1, 0, none⟩, fun _ => 1, fun _ => 1, fun i _ => if i = 0 then x else y⟩
abbrev vcs (x : Vl) : Array Value := #[.int .i64 x.k, .int .i64 x.n, .string x.s]
theorem vm1 {w : World} {b : Nat} {x : Vl} {v : Nat → Vl} (hv : v 0 = x) (h : w.heap[b]? = some (.cells (vcs x) 30 (0, 0))) : VM w (some ⟨b, 0, none⟩) 1 v := by
  refine .inr ⟨b, 0, rfl, (Array.getElem?_eq_some_iff.1 h).1, fun i hi => ?_⟩
  have e : i = 0 := by omega
  subst e
  rw [hv]
  simp [World.cell?, h]
theorem tm2 {w : World} {b0 b1 b2 : Nat} {x y : Vl} (h0 : w.heap[b0]? = some (.cells (vcs x) 30 (0, 0))) (h1 : w.heap[b1]? = some (.cells (vcs y) 30 (0, 0))) (h2 : w.heap[b2]? = some (.cells #[.slice (some ⟨b0, 0, none⟩) 1 1, .slice (some ⟨b1, 0, none⟩) 1 1] 32 (0, 0))) : TM w (some ⟨b2, 0, none⟩) (two b0 b1 x y) := by
  refine .inr ⟨b2, 0, rfl, (Array.getElem?_eq_some_iff.1 h2).1, fun i hi => ?_⟩
  have hi' : i < 2 := hi
  rcases (by omega : i = 0 ∨ i = 1) with e | e
  · subst e
    exact ⟨by simp [World.cell?, h2, two], vm1 rfl h0⟩
  · subst e
    exact ⟨by simp [World.cell?, h2, two], vm1 rfl h1⟩
theorem im1 {w : World} {b : Nat} {x : Int} (h : w.heap[b]? = some (.cells #[.int .i64 x] 3 (0, 0))) : IM w (some ⟨b, 0, none⟩) 1 (fun _ => x) := by
  refine .inr ⟨b, 0, rfl, (Array.getElem?_eq_some_iff.1 h).1, fun i hi => ?_⟩
  have e : i = 0 := by omega
  subst e
  simp [World.cell?, h]
theorem snd2 {b0 b1 : Nat} {x y : Vl} (hx : x.ok = true) (hy : y.ok = true) : Snd (two b0 b1 x y) :=
  ⟨by show 2 ≤ 60; omega, fun _ _ => by show 1 ≤ 12; omega, fun _ _ => rfl, fun i _ j _ => by show (if i = 0 then x else y).ok = true; split <;> assumption⟩
theorem cf2 {b0 b1 : Nat} {x y : Vl} (hx : x.ok = true) (hy : y.ok = true) {e : Int} (h : CF (two b0 b1 x y) 1 (fun _ => 0) e) : e = 0 :=
  h.one (.inr ⟨.inr (.inr (.inr (.inr ⟨rfl, snd2 hx hy⟩))), .inr (.inr ⟨rfl, by omega, fun i _ => by unfold colOk wid; rw [if_neg (by show ¬ 2 = 0; omega)]; show (0 : Int) ≤ 0 ∧ (0 : Int) < ((1 : Nat) : Int); omega⟩)⟩)
def n1 : Vl := ⟨1, 1, nul⟩
theorem n1_ok : n1.ok = true := by decide +kernel
theorem dst2 (b0 b1 : Nat) : dst (two b0 b1 n1 n1) 1 (fun _ => 0) 2 = [0] := by
  have h0 : likeA (two b0 b1 n1 n1) 1 (fun _ => 0) 0 = false := rfl
  have h1 : likeA (two b0 b1 n1 n1) 1 (fun _ => 0) 1 = true := likeA_true.2 ⟨0, by omega, alk_true.2 fun i hi => (Vl.cmp_zero n1_ok n1_ok).2 rfl⟩
  rw [dst_yes h1, dst_no h0]
  rfl
theorem heap_keep {w : World} {b : Nat} {o o' : Obj} (h : w.heap[b]? = some o) : (w.alloc o').heap[b]? = some o := by
  rw [(Bw.al w o').block b (Array.getElem?_eq_some_iff.1 h).1]
  exact h
/-- The table of two rows, as a literal lays it. -/
theorem lit2 (w1 w2 : World) (x y : Vl) (hb : Bw (w1.alloc (.cells (vcs x) 30)) w2) :
    TM ((w2.alloc (.cells (vcs y) 30)).alloc (.cells #[.slice (some ⟨w1.heap.size, 0, none⟩) 1 1, .slice (some ⟨w2.heap.size, 0, none⟩) 1 1] 32)) (some ⟨w2.heap.size + 1, 0, none⟩) (two w1.heap.size w2.heap.size x y) := by
  have h0 : w2.heap[w1.heap.size]? = some (.cells (vcs x) 30 (0, 0)) := by
    rw [hb.block _ (by simp)]
    exact heap_alloc_new _ _
  have h1 : (w2.alloc (.cells (vcs y) 30)).heap[w2.heap.size]? = some (.cells (vcs y) 30 (0, 0)) := heap_alloc_new _ _
  have e : w2.heap.size + 1 = (w2.alloc (.cells (vcs y) 30)).heap.size := by simp
  refine tm2 (heap_keep (heap_keep h0)) (heap_keep h1) ?_
  rw [e]
  exact heap_alloc_new _ _
set_option maxRecDepth 100000 in
set_option maxHeartbeats 8000000 in
theorem once_any (T : Tb) (p : Option Addr) (c : Nat) (p2 : Option Addr) (n c2 : Nat) (d : Nat → Int) (w : World) (hT : TM w p T) (hI : IM w p2 n d) (hq : T.q ≤ 9223372036854775807) (hn : n ≤ 9223372036854775807) (hL : ∀ i, i < T.q → T.L i ≤ 9223372036854775807) (hpc : T.q ≤ c) :
    Calls Try.prog 4 #[.slice p T.q c, .slice p2 n c2] w fun e w' => e = .returned (.bool true) ∧ Bw w w' := by
  have HD : Hid (∀ wx, TM wx p T → IM wx p2 n d → Calls Try.prog 9 #[.slice p T.q c, .slice p2 n c2] wx fun e w' => (∃ x v, e = .returned (.tuple #[v, errV x]) ∧ CF T n d x ∧ (x ≠ 0 → v = .slice none 0 0) ∧ (x = 0 → ∃ W, Bw wx W ∧ IV W v (dst T n d T.q) w')) ∧ Bw wx w') := fun wx h1 h2 => distinct_any T p c p2 n c2 d wx h1 h2 hq hn hL hpc
  have HN : Hid (∀ (k : Int) (wx : World), Calls Try.prog 6 #[.int .i64 k] wx fun e w' => e = .returned (V 1 k nul) ∧ Bw wx w') := rnum_any
  have HT : Hid (TM w p T) := hT
  have HI : Hid (IM w p2 n d) := hI
  obtain ⟨q, eq⟩ : ∃ q, T.q = q := ⟨_, rfl⟩
  have HEQ : Hid (T.q = q) := eq
  rw [eq] at HD hq hpc ⊢
  clear hT hI hL eq
  go_enter Try.func4, Try.ntmps4
  go_wp2_with fail
  refine (HN.out _ _).mono ?_
  rintro e w1 ⟨rfl, hb1⟩
  go_wp2_with fail
  refine (HN.out _ _).mono ?_
  rintro e w2 ⟨rfl, hb2⟩
  go_wp2_with fail
  have hbW : Bw w (((w2.alloc (.cells (vcs n1) 30)).alloc (.cells #[.slice (some ⟨w1.heap.size, 0, none⟩) 1 1, .slice (some ⟨w2.heap.size, 0, none⟩) 1 1] 32)).alloc (.cells #[.int .i64 0] 3)) := Bw.tr (Bw.tr (Bw.tr (Bw.tr (Bw.tr hb1 (Bw.al _ _)) hb2) (Bw.al _ _)) (Bw.al _ _)) (Bw.al _ _)
  have hTM := (lit2 w1 w2 n1 n1 hb2).next (Bw.al _ (.cells #[.int .i64 0] 3))
  have hIM : IM (((w2.alloc (.cells (vcs n1) 30)).alloc (.cells #[.slice (some ⟨w1.heap.size, 0, none⟩) 1 1, .slice (some ⟨w2.heap.size, 0, none⟩) 1 1] 32)).alloc (.cells #[.int .i64 0] 3)) (some ⟨w2.heap.size + 1 + 1, 0, none⟩) 1 (fun _ => 0) := by
    refine im1 ?_
    have e : w2.heap.size + 1 + 1 = ((w2.alloc (.cells (vcs n1) 30)).alloc (.cells #[.slice (some ⟨w1.heap.size, 0, none⟩) 1 1, .slice (some ⟨w2.heap.size, 0, none⟩) 1 1] 32)).heap.size := by simp
    rw [e]
    exact heap_alloc_new _ _
  have HQ := distinct_any (two w1.heap.size w2.heap.size n1 n1) (some ⟨w2.heap.size + 1, 0, none⟩) 2 (some ⟨w2.heap.size + 1 + 1, 0, none⟩) 1 1 (fun _ => 0) _ hTM hIM (by show 2 ≤ _; omega) (by omega) (fun _ _ => by show 1 ≤ _; omega) (by show 2 ≤ 2; omega)
  refine HQ.mono ?_
  rintro e w3 ⟨⟨x, v, rfl, hx, -, hv⟩, hb3⟩
  have hx0 := cf2 n1_ok n1_ok hx
  subst hx0
  obtain ⟨W, -, hIV⟩ := hv rfl
  obtain ⟨pv, cv, hvv, -⟩ := hIV.im
  have hlv : (dst (two w1.heap.size w2.heap.size n1 n1) 1 (fun _ => 0) (two w1.heap.size w2.heap.size n1 n1).q).length = 1 := by
    show (dst (two w1.heap.size w2.heap.size n1 n1) 1 (fun _ => 0) 2).length = 1
    rw [dst2]
    rfl
  rw [hlv] at hvv
  subst hvv
  have HB : Hid (Bw w w3) := hbW.tr hb3
  rw [errV_0]
  clear HQ hx hv hIV hlv hbW hTM hIM hb1 hb2 hb3
  have HDD := HD.out w3 (HT.out.next HB.out) (HI.out.next HB.out)
  clear HD
  go_wp2_with fail
  refine HDD.mono ?_
  clear HDD
  rintro e w4 ⟨⟨x, v, rfl, hx, hv0, hv⟩, hb4⟩
  have HX : Hid (CF T n d x) := hx
  have HB4 : Hid (Bw w w4) := HB.out.tr hb4
  by_cases hx0 : x = 0
  · subst hx0
    obtain ⟨W, -, hIV⟩ := hv rfl
    obtain ⟨pv, cv, rfl, him⟩ := hIV.im
    rw [errV_0]
    obtain ⟨hS, hn12, hcol⟩ := HX.out.zero
    have HS : Hid (Snd T) := hS
    have HCO : Hid (∀ i, i < n → colOk T (d i)) := hcol
    have hq60 : q ≤ 60 := by rw [← HEQ.out]; exact hS.few
    obtain ⟨ln, hln⟩ : ∃ ln, (dst T n d q).length = ln := ⟨_, rfl⟩
    have HLN : Hid ((dst T n d q).length = ln) := hln
    have HIV : Hid (IM w4 pv ln (nth (dst T n d q))) := by rw [← hln]; exact him
    rw [hln]
    have hmk := make_bools q (by omega)
    clear hx hv hv0 hb4 hIV him hS hcol hln
    let BPX := bodyPost Try.prog Try.f4 (fun _ _ => True)
    go_upto_region 7 with fail
    go_cut [9] (fun s9 wx => s9 = .slice (some ⟨w4.heap.size, 0, none⟩) q q ∧ Hid (w4.alloc (.cells (madeCells #[.bool false] q) 4) = wx))
    case first =>
      go_wp2_with fail
      go_meet
      case rel => exact ⟨rfl, rfl⟩
    case rest =>
    obtain ⟨rfl, HW⟩ := hcut
    apply_assumption
    exact tail8 T p c p2 n c2 d q w4.heap.size ln cv pv w w4 wc HEQ (HT.out.next HB4.out) (HI.out.next HB4.out) HS hn12 HCO HLN HIV (Nat.le_refl _) (by rw [← HW.out]; exact BA.new _ _) (by rw [← HW.out]; exact Bw.al _ _) HB4 _ _ _ _ _ _ _ _ _ _ _ _ _ _ _ _ _ _ _ _ _ _ _ _ _ _ _ _ _ _ _ _ _ _ _ _ _ _ _ _ _ _ _ _ _ _ _ _ _ _ _ _ _ _ _ _ _ _ _ _ _ _ _ _ _ _ _ _ _ _ _ _ _ _ _ _ _ _ _ _ _ _ _ _ _ _ _ _ _ _ _ _ _ _ _ _ _ _ _ _ _ _ _ _ _ _ _ _ _ _ _ _ _ _ _ _ _ _ _ _ _ _ _ _ _ _ _ _ _ _ _ _ _ _ _ _ _ _ _ _
  · rw [errV_of hx0]
    clear hx hv hv0 hb4
    go_wp2_with fail
    go_ret
    exact ⟨rfl, HB4.out⟩
end Go.Proofs.Ytehamdkjdbaceaa.so
