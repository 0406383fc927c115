
/- The document's Sum, walked. Conditions: as each theorem says. -/
import Derived.Test.YtbiikodnfaeceaaGreatDoorBua
import Derived.Test.YtbiikodnfaeceaaGreatDoorOw
namespace Go.Proofs.YtbiikodnfaeceaaGreatDoor.so
open Go.RowKit Go.Sort Go.Shelf
set_option maxRecDepth 100000 in
set_option maxHeartbeats 4000000 in
theorem rsum_row (F : Nat → Vl) (f : Nat → Int) (g n cap : Nat) (w : World) (hg : g < w.heap.size) (hl : n ≤ 1000000) (HC : Hid (∀ i, i < n → w.cell? ⟨g, i, none⟩ = some (.int .i64 (f i)))) (h0 : F 0 = ⟨1, 0, nul⟩)
    (HT : Hid (∀ (j : Nat) wx, j < n → Calls Tryz.prog 46 #[.int .i64 8, V (F j).k (F j).n (F j).s, V 1 (f j) nul] wx fun e w' => e = .returned (V (F (j + 1)).k (F (j + 1)).n (F (j + 1)).s) ∧ Below wx.heap.size wx w')) :
    Calls Tryz.prog 27 #[.slice (some ⟨g, 0, none⟩) n cap] w fun e w' => e = .returned (V (F n).k (F n).n (F n).s) ∧ Below w.heap.size w w' := by
  have HNM : Hid (∀ n wx, Calls Tryz.prog 45 #[.int .i64 n] wx fun e w' => e = .returned (V 1 n nul) ∧ Below wx.heap.size wx w') := rnumB_any
  have hb0 : Below w.heap.size w (w.alloc (.cells #[.int .i64 0, .int .i64 0, .string nul] 36)) := (Below.refl _ _).alloc (Nat.le_refl _) _
  have hq0 := heap_alloc_new w (.cells #[.int .i64 0, .int .i64 0, .string nul] 36)
  have HCx : Hid (∀ i wx, i < n → Below w.heap.size w wx → wx.cell? ⟨g, i, none⟩ = some (.int .i64 (f i))) := fun i wx hi hb => by rw [hb.cell (p := ⟨g, _, none⟩) hg]; exact HC.out i hi
  clear HC
  go_enter Tryz.func27, Tryz.ntmps27
  go_wp2_with fail
  refine (HNM.out _ _).mono ?_
  rintro e w1 ⟨rfl, hb1⟩
  have HB1 : Hid (Below w.heap.size w (w1.alloc (.cells #[.int .i64 1, .int .i64 0, .string nul] 36))) := (bnext hb0 hb1 hb0.size).alloc (bnext hb0 hb1 hb0.size).size _
  have HQ1 : Hid ((w1.alloc (.cells #[.int .i64 1, .int .i64 0, .string nul] 36)).heap[w.heap.size]? = some (.cells #[.int .i64 0, .int .i64 0, .string nul] 36 (0, 0))) := (Below.heap_alloc _ _ _ (Nat.lt_of_lt_of_le (lt_of_blk hq0) hb1.size)).trans ((hb1.block _ (lt_of_blk hq0)).trans hq0)
  have HT1 : Hid ((w1.alloc (.cells #[.int .i64 1, .int .i64 0, .string nul] 36)).heap[w1.heap.size]? = some (.cells #[.int .i64 1, .int .i64 0, .string nul] 36 (0, 0))) := heap_alloc_new _ _
  have hlt1 : w.heap.size < w1.heap.size := Nat.lt_of_lt_of_le (lt_of_blk hq0) hb1.size
  clear hb0 hq0 hb1
  go_wp2_with fail
  obtain ⟨bt, hbt⟩ : ∃ bt, w1.heap.size = bt := ⟨_, rfl⟩
  rw [hbt] at HT1 hlt1 ⊢
  clear hbt
  generalize w1.alloc (.cells #[.int .i64 1, .int .i64 0, .string nul] 36) = W1 at *
  go_loopw [4] (fun i wr => ∃ j : Nat, i = .int .i64 j ∧ j ≤ n ∧ wr.heap[bt]? = some (.cells #[.int .i64 (F j).k, .int .i64 (F j).n, .string (F j).s] 36 (0, 0)) ∧ wr.heap[w.heap.size]? = some (.cells #[.int .i64 0, .int .i64 0, .string nul] 36 (0, 0)) ∧ Below w.heap.size w wr) (fun i _ => n - (intOf i).toNat)
  case atStart => exact ⟨0, rfl, Nat.zero_le _, by rw [h0]; exact HT1.out, HQ1.out, HB1.out⟩
  case round =>
    obtain ⟨j, rfl, hj, hT, hQ, hB⟩ := hrel
    have HT2 : Hid (wr.heap[bt]? = some (.cells #[.int .i64 (F j).k, .int .i64 (F j).n, .string (F j).s] 36 (0, 0))) := hT
    have HQ2 : Hid (wr.heap[w.heap.size]? = some (.cells #[.int .i64 0, .int .i64 0, .string nul] 36 (0, 0))) := hQ
    have HB2 : Hid (Below w.heap.size w wr) := hB
    clear hT hQ hB HT1 HQ1 HB1
    by_cases hlt : j < n
    · have hlt' : (j : Int) < (n : Int) := by omega
      have hj0 : (0 : Int) ≤ (j : Int) := by omega
      have HTj : Hid (∀ wx, Calls Tryz.prog 46 #[.int .i64 8, V (F j).k (F j).n (F j).s, V 1 (f j) nul] wx fun e w' => e = .returned (V (F (j + 1)).k (F (j + 1)).n (F (j + 1)).s) ∧ Below wx.heap.size wx w') := fun wx => HT.out j wx hlt
      have HF : Hid (∃ t, F (j + 1) = t) := ⟨_, rfl⟩
      obtain ⟨t, ht⟩ := HF.out
      have HFt : Hid (F (j + 1) = t) := ht
      rw [ht] at HTj
      clear HT HF ht
      generalize F j = u at *
      obtain ⟨uk, un, us⟩ := u
      obtain ⟨tk, tn, ts⟩ := t
      dsimp only at HTj HT2
      have hc := HCx.out j wr hlt HB2.out
      obtain ⟨c0, c1, c2⟩ := ocells3 HT2.out
      go_wp2_with fail
      go_region_with (first | (go_at_call 45; refine (HNM.out _ _).mono ?_; rintro e w2 ⟨rfl, hb2⟩; have hT2 : w2.heap[bt]? = some (.cells #[.int .i64 uk, .int .i64 un, .string us] 36 (0, 0)) := (hb2.block _ (lt_of_blk HT2.out)).trans HT2.out; have hQ2 : w2.heap[w.heap.size]? = some (.cells #[.int .i64 0, .int .i64 0, .string nul] 36 (0, 0)) := (hb2.block _ (lt_of_blk HQ2.out)).trans HQ2.out; have hB2 : Below w.heap.size w w2 := bnext HB2.out.drew hb2 HB2.out.drew.size; obtain ⟨d0, d1, d2⟩ := ocells3 hT2; have hc2 := HCx.out j w2 hlt hB2) | (go_at_call 46; refine (HTj.out _).mono ?_; rintro e w3 ⟨rfl, hb3⟩; have hT3 : w3.heap[bt]? = some (.cells #[.int .i64 uk, .int .i64 un, .string us] 36 (0, 0)) := (hb3.block _ (lt_of_blk hT2)).trans hT2; have hQ3 : w3.heap[w.heap.size]? = some (.cells #[.int .i64 0, .int .i64 0, .string nul] 36 (0, 0)) := (hb3.block _ (lt_of_blk hQ2)).trans hQ2; have hB3 : Below w.heap.size w w3 := bnext hB2 hb3 hB2.size; obtain ⟨g0, g1, g2⟩ := ocells3 hT3; have f0 := ofrz hT3))
      all_goals
        go_wp2_with fail
        obtain ⟨w4, hw4, hq4, hk4, he4, -⟩ := oset3 hT3 (.int .i64 tk) (.int .i64 tn) (.string ts)
        rw [hw4]
        exact ⟨⟨j + 1, by simp, hlt, by rw [HFt.out]; exact hq4, by rw [he4 _ (by omega)]; exact hQ3, hB3.trans (hk4 _ (by omega))⟩, by simp [intOf]; omega⟩
    · obtain rfl : j = n := by omega
      obtain ⟨c0, c1, c2⟩ := ocells3 HT2.out
      obtain ⟨d0, d1, d2⟩ := ocells3 HQ2.out
      have f0 := ofrz HQ2.out
      go_wp2_with fail
      refine ofin3 HQ2.out (Q := bodyPost _ _ _ _ _) ?_
      clear c0 c1 c2 f0 d0 d1 d2
      intro w9 hq9 hk9
      obtain ⟨d0, d1, d2⟩ := ocells3 hq9
      exact bodyPost_ret (v := V (F j).k (F j).n (F j).s) (by simp [results, Tryz.results27, go_sem, d0, d1, d2]) rfl ⟨rfl, HB2.out.trans (hk9 _ (by omega))⟩
set_option maxRecDepth 100000 in
set_option maxHeartbeats 4000000 in
theorem rsum_nil (w : World) : Calls Tryz.prog 27 #[.slice none 0 0] w fun e w' => e = .returned (V 1 0 nul) ∧ Below w.heap.size w w' := by
  have HNM : Hid (∀ n wx, Calls Tryz.prog 45 #[.int .i64 n] wx fun e w' => e = .returned (V 1 n nul) ∧ Below wx.heap.size wx w') := rnumB_any
  have hb0 : Below w.heap.size w (w.alloc (.cells #[.int .i64 0, .int .i64 0, .string nul] 36)) := (Below.refl _ _).alloc (Nat.le_refl _) _
  have hq0 := heap_alloc_new w (.cells #[.int .i64 0, .int .i64 0, .string nul] 36)
  go_enter Tryz.func27, Tryz.ntmps27
  go_wp2_with fail
  refine (HNM.out _ _).mono ?_
  rintro e w1 ⟨rfl, hb1⟩
  have HB1 : Hid (Below w.heap.size w (w1.alloc (.cells #[.int .i64 1, .int .i64 0, .string nul] 36))) := (bnext hb0 hb1 hb0.size).alloc (bnext hb0 hb1 hb0.size).size _
  have HQ1 : Hid ((w1.alloc (.cells #[.int .i64 1, .int .i64 0, .string nul] 36)).heap[w.heap.size]? = some (.cells #[.int .i64 0, .int .i64 0, .string nul] 36 (0, 0))) := (Below.heap_alloc _ _ _ (Nat.lt_of_lt_of_le (lt_of_blk hq0) hb1.size)).trans ((hb1.block _ (lt_of_blk hq0)).trans hq0)
  have HT1 : Hid ((w1.alloc (.cells #[.int .i64 1, .int .i64 0, .string nul] 36)).heap[w1.heap.size]? = some (.cells #[.int .i64 1, .int .i64 0, .string nul] 36 (0, 0))) := heap_alloc_new _ _
  clear hb0 hq0 hb1
  go_wp2_with fail
  generalize w1.heap.size = bt at *
  generalize w1.alloc (.cells #[.int .i64 1, .int .i64 0, .string nul] 36) = W1 at *
  go_loopw [4] (fun i wr => i = .int .i64 0 ∧ wr = W1) (fun _ _ => 0)
  case atStart => exact ⟨rfl, rfl⟩
  case round =>
    obtain ⟨rfl, rfl⟩ := hrel
    obtain ⟨c0, c1, c2⟩ := ocells3 HT1.out
    obtain ⟨d0, d1, d2⟩ := ocells3 HQ1.out
    have f0 := ofrz HQ1.out
    go_wp2_with fail
    refine ofin3 HQ1.out (Q := bodyPost _ _ _ _ _) ?_
    clear c0 c1 c2 f0 d0 d1 d2
    intro w9 hq9 hk9
    obtain ⟨d0, d1, d2⟩ := ocells3 hq9
    exact bodyPost_ret (v := V 1 0 nul) (by simp [results, Tryz.results27, go_sem, d0, d1, d2]) rfl ⟨rfl, HB1.out.trans (hk9 _ (by omega))⟩
theorem rsum2_any (xs : List Int) (hx : ∀ n ∈ xs, B64 n) (base : Nat) (v : Value) (w : World) (h : w.ownsRow base 3 1 v xs.length (xs.map (Value.int .i64))) (hl : xs.length ≤ 1000000) :
    Calls Tryz.prog 27 #[v] w fun e w' => e = .returned (V (sumL xs).k (sumL xs).n (sumL xs).s) ∧ Below w.heap.size w w' := by
  rcases h.2 with ⟨rfl, h0⟩ | ⟨g, cap, cur, rfl, -, hg, -, -, -, ht⟩
  · have hx0 : xs = [] := List.length_eq_zero_iff.1 h0
    subst hx0
    exact rsum_nil w
  · have := rsum_row (fun j => sumL (xs.take j)) (fun i => xs.getD i 0) g xs.length cap w (lt_of_blk hg) hl (fun i hi => by
      have q1 : (xs.map (Value.int .i64))[i]? = some (.int .i64 (xs.getD i 0)) := by rw [List.getElem?_map]; simp [hi]
      rw [← ht, List.getElem?_take, if_pos (by omega)] at q1
      simp only [World.cell?, hg]
      simpa using q1) rfl (fun j wx hj => by
      have ho := sumL_ok (xs.take j) (fun n hn => hx n (List.mem_of_mem_take hn))
      have he : B64 (xs.getD j 0) := hx _ (by simp [hj])
      have := rtwo8 (sumL (xs.take j)).k (sumL (xs.take j)).n (sumL (xs.take j)).s 1 (xs.getD j 0) nul wx ho.1 (.inl rfl) ho.2 he
      rw [show sumL (xs.take (j + 1)) = t8 (sumL (xs.take j)) ⟨1, xs.getD j 0, nul⟩ from by rw [take_snocI xs j hj, sumL_snoc]]
      exact this)
    rw [List.take_length] at this
    exact this
theorem uptoV_drop (X : Nat → Vl) {m i : Nat} (h : i < m) : (uptoV X m).drop i = X i :: (uptoV X m).drop (i + 1) := by
  rw [List.drop_eq_getElem_cons (by rw [uptoV_len]; exact h)]
  simp [uptoV]
set_option maxRecDepth 100000 in
set_option maxHeartbeats 4000000 in
theorem rsum3_any (p : Option Addr) (m c : Nat) (hm : m ≤ 1000000) (X : Nat → Vl) (w : World) (hv : VM w p m X) (hb : ∀ i, i < m → B64 (X i).n) :
    Calls Tryz.prog 13 #[.slice p m c] w fun e w' => e = .returned (V (sumV (uptoV X m) []).k (sumV (uptoV X m) []).n (sumV (uptoV X m) []).s) ∧ Bw w w' := by
  obtain ⟨R, hR⟩ : ∃ R, sumV (uptoV X m) [] = R := ⟨_, rfl⟩
  have HR : Hid (sumV (uptoV X m) [] = R) := hR
  rw [hR]
  have HV : Hid (VM w p m X) := hv
  have HB : Hid (∀ i, i < m → B64 (X i).n) := hb
  have HSU : Hid (∀ W0 v ns wx, IV W0 v ns wx → (∀ n ∈ ns, B64 n) → ns.length ≤ 1000000 → Calls Tryz.prog 27 #[v] wx fun e w' => e = .returned (V (sumL ns).k (sumL ns).n (sumL ns).s) ∧ Below wx.heap.size wx w') := fun W0 v ns wx hi hn hl => rsum2_any ns hn W0.heap.size v wx hi.own hl
  clear hR hv hb
  have hq0 := heap_alloc_new w (.cells #[.int .i64 0, .int .i64 0, .string nul] 36)
  have HQ0 : Hid ((w.alloc (.cells #[.int .i64 0, .int .i64 0, .string nul] 36)).heap[w.heap.size]? = some (.cells #[.int .i64 0, .int .i64 0, .string nul] 36 (0, 0))) := hq0
  have HW1 : Hid (Bw w (w.alloc (.cells #[.int .i64 0, .int .i64 0, .string nul] 36))) := Bw.al _ _
  clear hq0
  go_enter Tryz.func13, Tryz.ntmps13
  go_wp2_with fail
  generalize w.alloc (.cells #[.int .i64 0, .int .i64 0, .string nul] 36) = w1 at *
  go_loopw [3, 4] (fun s3 s4 wr => ∃ (i : Nat) (ns : List Int), s4 = .int .i64 i ∧ i ≤ m ∧ Hid (IV w1 s3 ns wr) ∧ Hid (sumV ((uptoV X m).drop i) ns = R) ∧ Hid (∀ n ∈ ns, B64 n) ∧ ns.length ≤ i) (fun _ s4 _ => m - (intOf s4).toNat)
  case atStart => exact ⟨0, [], rfl, Nat.zero_le _, IV.nil _, HR, fun n hn => absurd hn List.not_mem_nil, Nat.le_refl _⟩
  case round =>
    obtain ⟨i, ns, rfl, hi, HI, HS, HN, hl⟩ := hrel
    by_cases hlt : i < m
    · have hlt' : (i : Int) < (m : Int) := by omega
      have hi0 : (0 : Int) ≤ (i : Int) := by omega
      rcases HV.out.next (HW1.out.tr HI.out.below) with h | ⟨g, o, rfl, hg, h3⟩
      · omega
      obtain ⟨y0, y1, y2⟩ := h3 i hlt
      have HD : Hid (sumV (X i :: (uptoV X m).drop (i + 1)) ns = R) := by have := HS.out; rwa [uptoV_drop X hlt] at this
      have HBi := HB.out i hlt
      generalize X i = x at *
      obtain ⟨xk, xn, xs⟩ := x
      dsimp only at y0 y1 y2
      clear h3 HS
      cases h4 : (xk == 4) with
      | true =>
        have HQ1 : Hid (wr.heap[w.heap.size]? = some (.cells #[.int .i64 0, .int .i64 0, .string nul] 36 (0, 0))) := bk HQ0.out HI.out.below
        obtain ⟨c0, c1, c2⟩ := ocells3 HQ1.out
        have f0 := ofrz HQ1.out
        have HX : Hid (R = ⟨xk, xn, xs⟩) := by have := HD.out; unfold sumV at this; rw [if_pos h4] at this; exact this.symm
        have HBW : Hid (Bw w wr) := HW1.out.tr HI.out.below
        go_wp2_with fail
        refine ofin3 HQ1.out (Q := bodyPost _ _ _ _ _) ?_
        clear c0 c1 c2 f0
        intro w9 hq9 hk9
        obtain ⟨d0, d1, d2⟩ := ocells3 hq9
        exact bodyPost_ret (v := V xk xn xs) (by simp [results, Tryz.results13, go_sem, d0, d1, d2]) rfl ⟨by rw [HX.out], HBW.out.trans (hk9 _ (Nat.le_refl _))⟩
      | false =>
      cases h1 : (xk == 1) with
      | false =>
        have HX : Hid (sumV ((uptoV X m).drop (i + 1)) ns = R) := by have := HD.out; unfold sumV at this; rw [if_neg (by simp [h4]), if_neg (by simp [h1])] at this; exact this
        go_wp2_with fail
        exact ⟨⟨i + 1, ns, by simp, hlt, HI, HX, HN, by omega⟩, by simp [intOf]; omega⟩
      | true =>
        have HX : Hid (sumV ((uptoV X m).drop (i + 1)) (ns ++ [xn]) = R) := by have := HD.out; unfold sumV at this; rw [if_neg (by simp [h4]), if_pos h1] at this; exact this
        have HN2 : Hid (∀ n ∈ ns ++ [xn], B64 n) := fun n hn => by
          rcases List.mem_append.1 hn with hn | hn
          · exact HN.out n hn
          · rw [List.mem_singleton] at hn; subst hn; exact HBi
        obtain ⟨pv, cv, rfl, -⟩ := HI.out.im
        obtain ⟨g2, cc, w3, hr, hV3⟩ := HI.out.one (by omega) xn
        have HV3 : Hid (IV w1 (.slice (some ⟨g2, 0, none⟩) (ns.length + 1) cc) (ns ++ [xn]) w3) := hV3
        have HLN : Hid ((ns ++ [xn]).length ≤ i + 1) := by show _ ≤ _; simp; omega
        obtain ⟨ln, hln⟩ : ∃ ln, ns.length = ln := ⟨_, rfl⟩
        rw [hln] at hr HV3 hl ⊢
        have HRR : Hid ((Builtin.append_ #[23, 23] 23 #[.slice pv ln cv, .slice (some ⟨wr.heap.size, 0, none⟩) 1 1]).run Tryz.prog (wr.alloc (.cells #[.int .i64 xn] 3)) = .ok (.slice (some ⟨g2, 0, none⟩) (ln + 1) cc) w3) := hr
        clear hV3 HI hr hln HN HD
        go_wp2_with (first | (at_builtin; refine wpList_append_eq rfl _ _ 23 rfl _ _ _ _ rfl rfl HRR.out ?_))
        exact ⟨⟨i + 1, ns ++ [xn], by simp, hlt, HV3, HX, HN2, HLN.out⟩, by simp [intOf]; omega⟩
    · have hlt' : ¬ (i : Int) < (m : Int) := by omega
      have hS := HSU.out w1 _ ns wr HI.out HN.out (by omega)
      have HX : Hid (sumL ns = R) := by
        have := HS.out
        rw [List.drop_of_length_le (by rw [uptoV_len]; omega)] at this
        unfold sumV at this
        exact this
      rw [HX.out] at hS
      have HCS : Hid (Calls Tryz.prog 27 #[u3] wr fun e w' => e = .returned (V R.k R.n R.s) ∧ Below wr.heap.size wr w') := hS
      have HBW : Hid (Bw w wr) := HW1.out.tr HI.out.below
      have HQ1 : Hid (wr.heap[w.heap.size]? = some (.cells #[.int .i64 0, .int .i64 0, .string nul] 36 (0, 0))) := bk HQ0.out HI.out.below
      clear hS HI HS
      go_wp2_with fail
      refine HCS.out.mono ?_
      rintro e w2 ⟨rfl, hb2⟩
      have HQ2 : Hid (w2.heap[w.heap.size]? = some (.cells #[.int .i64 0, .int .i64 0, .string nul] 36 (0, 0))) := bk HQ1.out hb2
      have HB2 : Hid (Bw w w2) := HBW.out.tr hb2
      obtain ⟨c0, c1, c2⟩ := ocells3 HQ2.out
      have f0 := ofrz HQ2.out
      clear hb2
      go_wp2_with fail
      refine ofin3 HQ2.out (Q := bodyPost _ _ _ _ _) ?_
      clear c0 c1 c2 f0
      intro w9 hq9 hk9
      obtain ⟨d0, d1, d2⟩ := ocells3 hq9
      exact bodyPost_ret (v := V R.k R.n R.s) (by simp [results, Tryz.results13, go_sem, d0, d1, d2]) rfl ⟨rfl, HB2.out.trans (hk9 _ (Nat.le_refl _))⟩
end Go.Proofs.YtbiikodnfaeceaaGreatDoor.so
