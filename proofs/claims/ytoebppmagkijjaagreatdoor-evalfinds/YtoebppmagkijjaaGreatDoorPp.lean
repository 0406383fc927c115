/- A node that can be written, as a formula's text, and its levels. Conditions: the package variables as the program's text lays them; lengths below a million. -/
import Derived.Test.YtoebppmagkijjaaGreatDoorPn
namespace Go.Proofs.YtoebppmagkijjaaGreatDoor.fm
open Go.RowKit
set_option maxHeartbeats 4000000 in
set_option maxRecDepth 100000 in
theorem write_formula (w0 : World) (hE : EnvW w0) {P : Nat → Prop} {k n : Int} {s : ByteArray} {r t : Rf} {p : Option Addr} {q c : Nat} {T0 : T} {x : List UInt8} {dp : Nat} (hW : W ink T0 x dp) (hN : Nd w0 P (NV k n s r t (.slice p q c)) T0) (hO : Ok T0) (hd : dp ≤ 500000) (hx : x.length ≤ 900000) :
    Calls Tryz.prog 71 #[NV k n s r t (.slice p q c)] w0 fun e w' => e = .returned (.tuple #[.string ⟨(61 :: x).toArray⟩, .int .i64 (dp : Nat)]) ∧ Below w0.heap.size w0 w' := by
  have hnode := node_any w0 hE hW hN hO
  clear hW hN hO hE
  have hb0 : Below w0.heap.size w0 (w0.alloc (.cells (N12 k n s r t (.slice p q c)) 28)) := (Below.refl _ _).alloc (Nat.le_refl _) _
  have hwb : ((w0.alloc (.cells (N12 k n s r t (.slice p q c)) 28)).alloc (.cells #[.pointer none, .slice none 0 0, .int .i64 0, .int .i64 0] 143)).heap[w0.heap.size + 1]? = some (.cells #[.pointer none, .slice none 0 0, .int .i64 0, .int .i64 0] 143 (0, 0)) := by
    have := blk_new (w0.alloc (.cells (N12 k n s r t (.slice p q c)) 28)) (.cells #[.pointer none, .slice none 0 0, .int .i64 0, .int .i64 0] 143)
    simpa using this
  have hW0 : WB ((w0.alloc (.cells (N12 k n s r t (.slice p q c)) 28)).alloc (.cells #[.pointer none, .slice none 0 0, .int .i64 0, .int .i64 0] 143)) w0.heap.size (w0.heap.size + 1) [] 0 0 :=
    ⟨by omega, _, _, .inl rfl, hwb, World.ownsRowF_nil _ _ _ _⟩
  have hB0 : Below w0.heap.size w0 ((w0.alloc (.cells (N12 k n s r t (.slice p q c)) 28)).alloc (.cells #[.pointer none, .slice none 0 0, .int .i64 0, .int .i64 0] 143)) := hb0.alloc (by simp) _
  have hn0 : ((w0.alloc (.cells (N12 k n s r t (.slice p q c)) 28)).alloc (.cells #[.pointer none, .slice none 0 0, .int .i64 0, .int .i64 0] 143)).heap[w0.heap.size]? = some (.cells (N12 k n s r t (.slice p q c)) 28 (0, 0)) := by
    rw [Below.heap_alloc _ _ _ (by simp)]; exact blk_new _ _
  have HW1 := write_any w0.heap.size (w0.heap.size + 1) [] 0 0 ⟨#[61]⟩ _ hW0 (by decide) (by simp; omega)
  clear hb0 hwb hW0
  go_enter Tryz.func71, Tryz.ntmps71
  go_wp2_with fail
  refine HW1.mono ?_
  clear HW1
  rintro e w2 ⟨rfl, h2, k2⟩
  have hn2 := k2.blk hn0 (by decide) (by omega)
  have hB2 := hB0.trans k2.b
  obtain ⟨⟨a0, a1, a2, a3, a4, a5, a6, a7, a8, a9, a10, a11⟩, af⟩ := cells12 hn2
  have HC := hnode w2 (w0.heap.size + 1) _ 0 0 hB2 h2 (by omega) (by omega) (by simp; omega)
  clear hnode hn0 hB0
  go_wp2_with fail
  refine HC.mono ?_
  clear HC
  rintro e w3 ⟨rfl, h3, k3⟩
  have hB3 := hB2.trans k3.b
  rw [show max 0 (0 + dp) = dp from by omega, show ([] ++ (⟨#[61]⟩ : ByteArray).data.toList ++ x) = 61 :: x from rfl] at h3
  clear a0 a1 a2 a3 a4 a5 a6 a7 a8 a9 a10 a11 af hn2 h2 k2 k3 hB2
  have h3d := h3.drew
  have c3 := h3d.cells.1.2
  have HS : Hid (Calls Tryz.prog 104 #[ptr (w0.heap.size + 1)] w3.drew fun e w' => e = .returned (.string ⟨(61 :: x).toArray⟩) ∧ w'.heap[w0.heap.size + 1]? = w3.drew.heap[w0.heap.size + 1]? ∧ Below w0.heap.size w3.drew w') := string_any _ _ _ _ _ _ h3d (by simp)
  have KC : Hid (∀ wx : World, wx.heap[w0.heap.size + 1]? = w3.drew.heap[w0.heap.size + 1]? → wx.cell? ⟨w0.heap.size + 1, 3, none⟩ = some (.int .i64 (dp : Nat))) := fun wx hx => by
    rw [World.cell?_of_block hx]; exact c3
  have HB3 : Hid (Below w0.heap.size w0 w3.drew) := hB3.drew
  obtain ⟨Z, hZ⟩ : ∃ Z : ByteArray, ⟨(61 :: x).toArray⟩ = Z := ⟨_, rfl⟩
  rw [hZ] at HS
  have HZ : Hid (⟨(61 :: x).toArray⟩ = Z) := hZ
  clear hZ h3 h3d hB3
  go_wp2_with fail
  go_region_held3 (fun wx => wx.cell? ⟨w0.heap.size + 1, 3, none⟩ = some (.int .i64 (dp : Nat))) (first | exact KC.out _ rfl | exact KC.out _ q4) (first | (go_at_call 104; with_reducible refine HS.out.mono ?_; rintro e w4 ⟨rfl, q4, b4⟩))
  all_goals
    go_wp2_with fail
    go_ret2
    exact ⟨by rw [HZ.out]; rfl, HB3.out.trans b4⟩
end Go.Proofs.YtoebppmagkijjaaGreatDoor.fm
/- Print: a node's text, or what is wrong with it. Conditions: the package variables as the program's text lays them; numbers of 64 bits, lists of children below 2^47. -/
namespace Go.Proofs.YtoebppmagkijjaaGreatDoor.fm
open Go.RowKit
theorem commas_len : ∀ (ts : List T) (xs : List (List UInt8)), xs.length = ts.length → (∀ (i : Nat) t x, ts[i]? = some t → xs[i]? = some x → x.length + 2 ≤ 500 * t.cnt) → (xs.flatMap (fun y => 44 :: y)).length ≤ 500 * cntL ts
  | [], [], _, _ => by simp
  | [], _ :: _, h, _ => by simp at h
  | _ :: _, [], h, _ => by simp at h
  | t :: ts, x :: xs, hl, h => by
    have h0 := h 0 t x (by simp) (by simp)
    have h1 := commas_len ts xs (by simpa using hl) (fun i t x a b => h (i + 1) t x (by simpa using a) (by simpa using b))
    simp only [List.flatMap_cons, List.length_append, List.length_cons, cntL]
    omega
theorem commas_flat (xs : List (List UInt8)) : (commas xs).length ≤ (xs.flatMap (fun y => 44 :: y)).length := by
  cases xs with
  | nil => simp [commas]
  | cons x xs => rw [commas_cons]; simp
theorem piece_le : ∀ (xs : List (List UInt8)) (i : Nat) (x : List UInt8), xs[i]? = some x → x.length ≤ (commas xs).length
  | [], i, x, h => by simp at h
  | y :: ys, i, x, h => by
    rw [commas_cons]
    cases i with
    | zero => simp at h; subst h; simp
    | succ i =>
      have h1 := piece_le ys i x (by simpa using h)
      have h2 := commas_flat ys
      simp only [List.length_append]; omega
theorem fold_le (ds : List Nat) (N : Nat) (h : ∀ (i : Nat) d, ds[i]? = some d → d ≤ N) : ds.foldr max 0 ≤ N := by
  induction ds with
  | nil => simp
  | cons a ds ih =>
    have h0 := h 0 a (by simp)
    have h1 := ih (fun i d hd => h (i + 1) d (by simpa using hd))
    simp only [List.foldr_cons]; omega
theorem len_le {t : T} {x : List UInt8} {dp : Nat} (h : W ink t x dp) : x.length + 2 ≤ 500 * t.cnt ∧ dp ≤ x.length := by
  induction h with
  | @num n h0 h1 =>
    have h2 : (Lib.itoa n).length ≤ 20 := by first | exact itoa_len n (by omega) h1 | exact Lib.itoa_len n (by omega) h1
    have h3 : (ink.num n).length = (Lib.itoa n).length := rfl
    simp only [T.cnt, cntL]; omega
  | @text s hs =>
    have h1 := dbl_le s.data.toList
    have h2 : s.data.toList.length = s.size := by simp
    simp only [T.cnt, cntL, List.length_cons, List.length_append, List.length_nil]; omega
  | @truth n h => rcases h with rfl | rfl <;> simp [T.cnt, cntL, truT]
  | @bad n h h6 =>
    have hc : n = 1 ∨ n = 2 ∨ n = 3 ∨ n = 4 ∨ n = 5 ∨ n = 6 := by omega
    rcases hc with rfl | rfl | rfl | rfl | rfl | rfl <;> simp [T.cnt, cntL, badT]
  | @ref r h =>
    have h1 := ref_size r h
    have h2 : (⟨(ink.ref r).toArray⟩ : ByteArray).size = (ink.ref r).length := by show (ink.ref r).toArray.size = _; simp
    simp only [T.cnt, cntL]; omega
  | @box r t h h2 =>
    have h1 := ref_size r h
    have h3 := ref_size t h2
    have h4 : (⟨(ink.ref r).toArray⟩ : ByteArray).size = (ink.ref r).length := by show (ink.ref r).toArray.size = _; simp
    have h5 : (⟨(ink.ref t).toArray⟩ : ByteArray).size = (ink.ref t).length := by show (ink.ref t).toArray.size = _; simp
    simp only [T.cnt, cntL, List.length_append, List.length_cons]; omega
  | @neg a x d ha h ih =>
    have h1 := brk_len 5 a x
    have h2 : brd 5 a d ≤ (brk 5 a x).length := by unfold brk brd; split <;> (try simp only [List.length_cons, List.length_append, List.length_nil]) <;> omega
    simp only [T.cnt, cntL, List.length_cons]; omega
  | @two op a b x y d e h1 h11 ha hb hx hy ihx ihy =>
    have q1 := brk_len (lev op) a x
    have q2 := brk_len (lev op + 1) b y
    have q3 : brd (lev op) a d ≤ (brk (lev op) a x).length := by unfold brk brd; split <;> (try simp only [List.length_cons, List.length_append, List.length_nil]) <;> omega
    have q4 : brd (lev op + 1) b e ≤ (brk (lev op + 1) b y).length := by unfold brk brd; split <;> (try simp only [List.length_cons, List.length_append, List.length_nil]) <;> omega
    have q5 := (opTxt_T h1 h11)
    have q6 : (opT op).length ≤ 2 := by rw [← q5.1]; have := q5.2; simpa using this
    simp only [T.cnt, cntL, List.length_append]; omega
  | @call name ts xs ds hn hx hd h ih =>
    have hnm : name.size ≤ 10 := by
      unfold isNm at hn
      rw [Bool.and_eq_true, Bool.and_eq_true, decide_eq_true_eq, decide_eq_true_eq] at hn
      exact hn.1.2
    have h0 : name.data.toList.length = name.size := by simp
    have hds : ∀ (i : Nat) t x, ts[i]? = some t → xs[i]? = some x → ∃ e, ds[i]? = some e := fun i t x a _ => ⟨_, List.getElem?_eq_getElem (by rw [hd]; exact (List.getElem?_eq_some_iff.1 a).1)⟩
    have h1 := commas_len ts xs hx (fun i t x a b => by obtain ⟨e, he⟩ := hds i t x a b; exact (ih i t x e a b he).1)
    have h2 := commas_flat xs
    have h3 := fold_le ds (commas xs).length (fun i e he => by
      have hi := (List.getElem?_eq_some_iff.1 he).1
      have a : ts[i]? = some ts[i] := List.getElem?_eq_getElem (by omega)
      have b : xs[i]? = some xs[i] := List.getElem?_eq_getElem (by omega)
      have h4 := (ih i _ _ e a b he).2
      have h5 := piece_le xs i _ b
      omega)
    rw [cnt_eq]
    simp only [List.length_append, List.length_cons, List.length_nil]; omega
set_option maxHeartbeats 4000000 in
set_option maxRecDepth 100000 in
theorem isExpr_any {w : World} {P : Nat → Prop} {k n : Int} {s : ByteArray} {r t : Rf} {p : Option Addr} {q c : Nat} {T0 : T} (h : Nd w P (NV k n s r t (.slice p q c)) T0) (hO : Ok T0) (w1 : World) (hb : Below w.heap.size w w1) :
    Calls Tryz.prog 70 #[NV k n s r t (.slice p q c)] w1 fun e w' => ∃ b, e = .returned (.bool b) ∧ (b = true ↔ k ≠ 6 ∧ Wf T0) ∧ Below w1.heap.size w1 w' := by
  have hS0 := OB.start hb (N12 k n s r t (.slice p q c))
  obtain ⟨⟨a0, a1, a2, a3, a4, a5, a6, a7, a8, a9, a10, a11⟩, af⟩ := cells12 hS0.a
  have HC := isNode_any h hO _ hS0.below
  clear h hO
  by_cases h6 : k = 6
  · subst h6
    clear HC
    go_enter Tryz.func70, Tryz.ntmps70
    go_wp2_with fail
    go_ret
    exact ⟨_, rfl, by simp, hS0.below1⟩
  · have H6 : Hid (¬ k = 6) := h6
    go_enter Tryz.func70, Tryz.ntmps70
    go_wp2_with fail
    refine HC.mono ?_
    rintro e w2 ⟨b, rfl, hbw, hb2⟩
    have HB : Hid (b = true ↔ Wf T0) := hbw
    clear hbw
    go_wp2_with fail
    go_ret
    refine ⟨_, rfl, ?_, (hS0.next hb2).below1⟩
    rw [Bool.and_eq_true, HB.out]
    simp
end Go.Proofs.YtoebppmagkijjaaGreatDoor.fm
