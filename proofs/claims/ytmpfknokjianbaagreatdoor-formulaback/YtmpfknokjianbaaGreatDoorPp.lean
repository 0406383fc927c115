/- Print: a node's text, or what is wrong with it. Conditions: the package variables as the program's text lays them; numbers of 64 bits, lists of children below 2^47. -/
import Derived.Test.YtmpfknokjianbaaGreatDoorPo
namespace Go.Proofs.YtmpfknokjianbaaGreatDoor.fm
open Go.RowKit
theorem commas_len : ∀ (ts : List T) (xs : List (List UInt8)), xs.length = ts.length → (∀ (i : Nat) t x, ts[i]? = some t → xs[i]? = some x → x.length + 2 ≤ 500 * t.cnt) → (xs.flatMap (fun y => 44 :: y)).length ≤ 500 * cntL ts
  | [], [], _, _ => by simp
  | [], _ :: _, h, _ => by simp at h
  | _ :: _, [], h, _ => by simp at h
  | t :: ts, x :: xs, hl, h => by
    have h0 := h 0 t x (by simp) (by simp)
    have h1 := commas_len ts xs (by simpa using hl) (fun i t x a b => h (i + 1) t x (by simpa using a) (by simpa using b))
    simp only [List.flatMap_cons, List.length_append, List.length_cons, cntL]
    omega
theorem commas_flat (xs : List (List UInt8)) : (commas xs).length ≤ (xs.flatMap (fun y => 44 :: y)).length := by
  cases xs with
  | nil => simp [commas]
  | cons x xs => rw [commas_cons]; simp
theorem piece_le : ∀ (xs : List (List UInt8)) (i : Nat) (x : List UInt8), xs[i]? = some x → x.length ≤ (commas xs).length
  | [], i, x, h => by simp at h
  | y :: ys, i, x, h => by
    rw [commas_cons]
    cases i with
    | zero => simp at h; subst h; simp
    | succ i =>
      have h1 := piece_le ys i x (by simpa using h)
      have h2 := commas_flat ys
      simp only [List.length_append]; omega
theorem fold_le (ds : List Nat) (N : Nat) (h : ∀ (i : Nat) d, ds[i]? = some d → d ≤ N) : ds.foldr max 0 ≤ N := by
  induction ds with
  | nil => simp
  | cons a ds ih =>
    have h0 := h 0 a (by simp)
    have h1 := ih (fun i d hd => h (i + 1) d (by simpa using hd))
    simp only [List.foldr_cons]; omega
theorem len_le {t : T} {x : List UInt8} {dp : Nat} (h : W ink t x dp) : x.length + 2 ≤ 500 * t.cnt ∧ dp ≤ x.length := by
  induction h with
  | @num n h0 h1 =>
    have h2 : (Lib.itoa n).length ≤ 20 := by first | exact itoa_len n (by omega) h1 | exact Lib.itoa_len n (by omega) h1
    have h3 : (ink.num n).length = (Lib.itoa n).length := rfl
    simp only [T.cnt, cntL]; omega
  | @text s hs =>
    have h1 := dbl_le s.data.toList
    have h2 : s.data.toList.length = s.size := by simp
    simp only [T.cnt, cntL, List.length_cons, List.length_append, List.length_nil]; omega
  | @truth n h => rcases h with rfl | rfl <;> simp [T.cnt, cntL, truT]
  | @bad n h h6 =>
    have hc : n = 1 ∨ n = 2 ∨ n = 3 ∨ n = 4 ∨ n = 5 ∨ n = 6 := by omega
    rcases hc with rfl | rfl | rfl | rfl | rfl | rfl <;> simp [T.cnt, cntL, badT]
  | @ref r h =>
    have h1 := ref_size r h
    have h2 : (⟨(ink.ref r).toArray⟩ : ByteArray).size = (ink.ref r).length := by show (ink.ref r).toArray.size = _; simp
    simp only [T.cnt, cntL]; omega
  | @box r t h h2 =>
    have h1 := ref_size r h
    have h3 := ref_size t h2
    have h4 : (⟨(ink.ref r).toArray⟩ : ByteArray).size = (ink.ref r).length := by show (ink.ref r).toArray.size = _; simp
    have h5 : (⟨(ink.ref t).toArray⟩ : ByteArray).size = (ink.ref t).length := by show (ink.ref t).toArray.size = _; simp
    simp only [T.cnt, cntL, List.length_append, List.length_cons]; omega
  | @neg a x d ha h ih =>
    have h1 := brk_len 5 a x
    have h2 : brd 5 a d ≤ (brk 5 a x).length := by unfold brk brd; split <;> (try simp only [List.length_cons, List.length_append, List.length_nil]) <;> omega
    simp only [T.cnt, cntL, List.length_cons]; omega
  | @two op a b x y d e h1 h11 ha hb hx hy ihx ihy =>
    have q1 := brk_len (lev op) a x
    have q2 := brk_len (lev op + 1) b y
    have q3 : brd (lev op) a d ≤ (brk (lev op) a x).length := by unfold brk brd; split <;> (try simp only [List.length_cons, List.length_append, List.length_nil]) <;> omega
    have q4 : brd (lev op + 1) b e ≤ (brk (lev op + 1) b y).length := by unfold brk brd; split <;> (try simp only [List.length_cons, List.length_append, List.length_nil]) <;> omega
    have q5 := (opTxt_T h1 h11)
    have q6 : (opT op).length ≤ 2 := by rw [← q5.1]; have := q5.2; simpa using this
    simp only [T.cnt, cntL, List.length_append]; omega
  | @call name ts xs ds hn hx hd h ih =>
    have hnm : name.size ≤ 10 := by
      unfold isNm at hn
      rw [Bool.and_eq_true, Bool.and_eq_true, decide_eq_true_eq, decide_eq_true_eq] at hn
      exact hn.1.2
    have h0 : name.data.toList.length = name.size := by simp
    have hds : ∀ (i : Nat) t x, ts[i]? = some t → xs[i]? = some x → ∃ e, ds[i]? = some e := fun i t x a _ => ⟨_, List.getElem?_eq_getElem (by rw [hd]; exact (List.getElem?_eq_some_iff.1 a).1)⟩
    have h1 := commas_len ts xs hx (fun i t x a b => by obtain ⟨e, he⟩ := hds i t x a b; exact (ih i t x e a b he).1)
    have h2 := commas_flat xs
    have h3 := fold_le ds (commas xs).length (fun i e he => by
      have hi := (List.getElem?_eq_some_iff.1 he).1
      have a : ts[i]? = some ts[i] := List.getElem?_eq_getElem (by omega)
      have b : xs[i]? = some xs[i] := List.getElem?_eq_getElem (by omega)
      have h4 := (ih i _ _ e a b he).2
      have h5 := piece_le xs i _ b
      omega)
    rw [cnt_eq]
    simp only [List.length_append, List.length_cons, List.length_nil]; omega
set_option maxHeartbeats 4000000 in
set_option maxRecDepth 100000 in
theorem isExpr_any {w : World} {P : Nat → Prop} {k n : Int} {s : ByteArray} {r t : Rf} {p : Option Addr} {q c : Nat} {T0 : T} (h : Nd w P (NV k n s r t (.slice p q c)) T0) (hO : Ok T0) (w1 : World) (hb : Below w.heap.size w w1) :
    Calls Tryz.prog 25 #[NV k n s r t (.slice p q c)] w1 fun e w' => ∃ b, e = .returned (.bool b) ∧ (b = true ↔ k ≠ 6 ∧ Wf T0) ∧ Below w1.heap.size w1 w' := by
  have hS0 := OB.start hb (N12 k n s r t (.slice p q c))
  obtain ⟨⟨a0, a1, a2, a3, a4, a5, a6, a7, a8, a9, a10, a11⟩, af⟩ := cells12 hS0.a
  have HC := isNode_any h hO _ hS0.below
  clear h hO
  by_cases h6 : k = 6
  · subst h6
    clear HC
    go_enter Tryz.func25, Tryz.ntmps25
    go_wp2_with fail
    go_ret
    exact ⟨_, rfl, by simp, hS0.below1⟩
  · have H6 : Hid (¬ k = 6) := h6
    go_enter Tryz.func25, Tryz.ntmps25
    go_wp2_with fail
    refine HC.mono ?_
    rintro e w2 ⟨b, rfl, hbw, hb2⟩
    have HB : Hid (b = true ↔ Wf T0) := hbw
    clear hbw
    go_wp2_with fail
    go_ret
    refine ⟨_, rfl, ?_, (hS0.next hb2).below1⟩
    rw [Bool.and_eq_true, HB.out]
    simp
end Go.Proofs.YtmpfknokjianbaaGreatDoor.fm
