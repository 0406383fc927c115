
/- The program's Number and Column, walked at any text and any number. Conditions: as each theorem says. -/
import Derived.Test.YtnelglmbckgbgaaDoorFwf
import Derived.Test.YtnelglmbckgbgaaDoorFwg
import Derived.Test.YtnelglmbckgbgaaDoorFwh
import Derived.Lib.ConvBytes
namespace Go.Proofs.YtnelglmbckgbgaaDoor.fw
open Go.RowKit Go.Sort
theorem snoc_ind {P : List UInt8 → Prop} (h0 : P []) (h1 : ∀ l b, P l → P (l ++ [b])) (l : List UInt8) : P l := by
  have h : ∀ m : List UInt8, P m.reverse := by
    intro m
    induction m with
    | nil => exact h0
    | cons b m ih => rw [List.reverse_cons]; exact h1 _ _ ih
  have := h l.reverse
  rwa [List.reverse_reverse] at this
theorem numL_low (l : List UInt8) (h : l.all ltr = true) : 26 ^ l.length ≤ 25 * numL l + 1 := by
  induction l using snoc_ind with
  | h0 => simp [numL]
  | h1 l b ih =>
    rw [List.all_append, Bool.and_eq_true] at h
    have h1 := ih h.1
    have h2 : 65 ≤ b.toNat := by have := h.2; unfold ltr at this; simp at this; exact this.1
    rw [numL_snoc, List.length_append, List.length_singleton, Nat.pow_succ]
    omega
theorem numL_grow (l m : List UInt8) : numL l ≤ numL (l ++ m) := by
  induction m using snoc_ind with
  | h0 => simp
  | h1 m b ih =>
    rw [← List.append_assoc, numL_snoc]
    omega
/-- How far the letters are read: all are letters, and they are no more than may be. -/
def NR (l : List UInt8) (i n : Nat) : Prop := (l.take i).all ltr = true ∧ n = numL (l.take i) ∧ n ≤ 1000000
theorem nr_zero (l : List UInt8) : NR l 0 0 := ⟨rfl, rfl, by omega⟩
theorem nr_small {l : List UInt8} {i n : Nat} (h : NR l i n) : n ≤ 1000000 := h.2.2
theorem nr_next {l : List UInt8} {i n : Nat} {b : UInt8} (h : NR l i n) (hb : l[i]? = some b) (hl : ltr b = true) (hn : n * 26 + (b.toNat - 64) ≤ 1000000) : NR l (i + 1) (n * 26 + (b.toNat - 64)) := by
  obtain ⟨h1, h2, -⟩ := h
  have e : l.take (i + 1) = l.take i ++ [b] := by rw [List.take_add_one, hb]; rfl
  refine ⟨by rw [e, List.all_append, h1]; simp [hl], by rw [e, numL_snoc, ← h2], hn⟩
theorem nm_no {l : List UInt8} (h : nmB l = false) : nmN l = 0 ∧ nmE l = 2 := by unfold nmN nmE; rw [h]; exact ⟨rfl, rfl⟩
theorem nr_bad {l : List UInt8} {i : Nat} {b : UInt8} (hb : l[i]? = some b) (hl : ltr b = false) : nmN l = 0 ∧ nmE l = 2 := by
  refine nm_no ?_
  have : l.all ltr = false := by
    rw [List.all_eq_false]
    exact ⟨b, List.mem_of_getElem? hb, by simp [hl]⟩
  unfold nmB gdL
  rw [this]
  simp
theorem nr_much {l : List UInt8} {i n : Nat} {b : UInt8} (h : NR l i n) (hb : l[i]? = some b) (hn : 1000000 < n * 26 + (b.toNat - 64)) : nmN l = 0 ∧ nmE l = 2 := by
  refine nm_no ?_
  obtain ⟨h1, h2, -⟩ := h
  have e : l.take (i + 1) = l.take i ++ [b] := by rw [List.take_add_one, hb]; rfl
  have h3 := numL_grow (l.take (i + 1)) (l.drop (i + 1))
  rw [List.take_append_drop, e, numL_snoc, ← h2] at h3
  unfold nmB
  rw [decide_eq_false (by omega : ¬ numL l ≤ 1000000), Bool.and_false]
theorem nr_end {l : List UInt8} {i n : Nat} (h : NR l i n) (hi : l.length ≤ i) (hn : n ≠ 0) : nmN l = (n : Int) ∧ nmE l = 0 := by
  obtain ⟨h1, h2, h3⟩ := h
  rw [List.take_of_length_le hi] at h1 h2
  have h4 := numL_low l h1
  have h5 : l.length ≤ 5 := by
    rcases Nat.lt_or_ge 5 l.length with h6 | h6
    · have : 26 ^ 6 ≤ 26 ^ l.length := Nat.pow_le_pow_right (by omega) h6
      omega
    · exact h6
  have h6 : l.isEmpty = false := by
    cases l with
    | nil => exact absurd (by rw [h2]; rfl) hn
    | cons => rfl
  have h7 : nmB l = true := by unfold nmB gdL; rw [h6, h1, decide_eq_true h5, decide_eq_true (by omega : numL l ≤ 1000000)]; rfl
  unfold nmN nmE
  rw [h7, h2]
  exact ⟨rfl, rfl⟩
theorem nr_nil {l : List UInt8} {i : Nat} (h : NR l i 0) (hi : l.length ≤ i) : nmN l = 0 ∧ nmE l = 2 := by
  obtain ⟨h1, h2, h3⟩ := h
  rw [List.take_of_length_le hi] at h1 h2
  have h4 := numL_low l h1
  rw [← h2] at h4
  have h5 : l.length = 0 := by
    rcases Nat.eq_zero_or_pos l.length with h6 | h6
    · exact h6
    · have : 26 ^ 1 ≤ 26 ^ l.length := Nat.pow_le_pow_right (by omega) h6
      omega
  have h6 : l = [] := List.eq_nil_of_length_eq_zero h5
  subst h6
  exact ⟨rfl, rfl⟩
theorem bw_bytes (w : World) (s : ByteArray) : Bw w (Go.Lib.bytesWorld w 5 s) :=
  ⟨rfl, rfl, rfl, by rw [Go.Lib.bytesWorld_size]; omega, fun j hj => Go.Lib.bytesWorld_at_old w 5 s j hj⟩
set_option maxRecDepth 100000 in
set_option maxHeartbeats 4000000 in
theorem number_any (s : ByteArray) (w : World) (hs : s.size ≤ 140737488351232) :
    Calls Tryd.prog 10 #[.string s] w fun e w' => e = .returned (.tuple #[.int .i64 (nmN s.toList), errV (nmE s.toList)]) ∧ Bw w w' := by
  have HSL : Hid (s.toList.length = s.size) := size_list s
  obtain ⟨A, hA⟩ : ∃ A, nmN s.toList = A := ⟨_, rfl⟩
  obtain ⟨E, hE⟩ : ∃ E, errV (nmE s.toList) = E := ⟨_, rfl⟩
  have HA : Hid (nmN s.toList = A) := hA
  have HE : Hid (errV (nmE s.toList) = E) := hE
  rw [hA, hE]
  clear hA hE
  have hcv := Go.Lib.run_convert_string_bytes (P := Tryd.prog) w 9 37 5 s Tryd.underlying9 Tryd.underlying37 Tryd.underlying5
  have hcell := Go.Lib.bytesWorld_cell w 5 s
  have HB : Hid (Bw w (Go.Lib.bytesWorld w 5 s)) := bw_bytes w s
  obtain ⟨c, hc⟩ : ∃ c, grownCap w s.size 0 5 = c := ⟨_, rfl⟩
  have hsc : s.size ≤ c := by rw [← hc]; exact grownCap_ge w s.size 0 5
  obtain ⟨wb, hwb⟩ : ∃ wb, Go.Lib.bytesWorld w 5 s = wb := ⟨_, rfl⟩
  rw [hc, hwb] at hcv
  rw [hwb] at hcell HB
  clear hc hwb
  obtain ⟨g, hg⟩ : ∃ g, w.heap.size = g := ⟨_, rfl⟩
  rw [hg] at hcv hcell
  clear hg
  go_enter Tryd.func10, Tryd.ntmps10
  go_wp2_with fail
  go_loopw [4, 10] (fun s4 s10 wr => ∃ (i n : Nat), s10 = .int .i64 (i : Int) ∧ s4 = .int .i64 (n : Int) ∧ i ≤ s.size ∧ wr = wb ∧ Hid (NR s.toList i n)) (fun _ s10 _ => s.size - (intOf s10).toNat)
  case atStart => exact ⟨0, 0, rfl, rfl, Nat.zero_le _, rfl, nr_zero _⟩
  case round =>
    obtain ⟨i, n, rfl, rfl, hi, rfl, HR⟩ := hrel
    by_cases hlt : i < s.size
    · have hlt' : (i : Int) < (s.size : Int) := by omega
      have hi0 : (0 : Int) ≤ (i : Int) := by omega
      have hat := at_list hlt
      have hsm := nr_small HR.out
      have hce := hcell i hlt
      have eb : s.data.toList.getD i 0 = s[i] := by
        have h9 : i < s.data.size := hlt
        rw [List.getD, Array.getElem?_toList, Array.getElem?_eq_getElem h9]
        rfl
      rw [eb] at hce
      clear eb hcell
      generalize s[i] = b at *
      by_cases hl : ltr b = true
      · have hl2 : 65 ≤ b.toNat ∧ b.toNat ≤ 90 := by unfold ltr at hl; simp at hl; exact hl
        have h1 : ¬ (b.toNat : Int) < 65 := by omega
        have h2 : ¬ (b.toNat : Int) > 90 := by omega
        have hu8 : IntKind.u8.wrap ((b.toNat : Int) - 65) = (b.toNat : Int) - 65 := by first | (rw [IntKind.wrap_u8]; omega) | (show ((b.toNat : Int) - 65) % 256 = _; omega)
        have hw : ((n : Int) * 26 + ((b.toNat : Int) - 65) + 1) = ((n * 26 + (b.toNat - 64) : Nat) : Int) := by omega
        by_cases hm : n * 26 + (b.toNat - 64) ≤ 1000000
        · have HX : Hid (NR s.toList (i + 1) (n * 26 + (b.toNat - 64))) := nr_next HR.out hat hl hm
          have hm' : ¬ ((n * 26 + (b.toNat - 64) : Nat) : Int) > 1000000 := by omega
          generalize n * 26 + (b.toNat - 64) = n2 at *
          have hm2 : ¬ ((n : Int) * 26 + ((b.toNat : Int) - 65) + 1 > 1000000) := by omega
          have HW : Hid ((n : Int) * 26 + ((b.toNat : Int) - 65) + 1 = (n2 : Int)) := hw
          clear hat HR hl hm' hw
          go_wp2_with fail
          refine ⟨⟨i + 1, n2, rfl, ?_, hlt, trivial, HX⟩, by simp [intOf]; omega⟩
          exact congrArg _ HW.out
        · obtain ⟨e1, e2⟩ := nr_much HR.out hat (by omega)
          have hm' : ((n * 26 + (b.toNat - 64) : Nat) : Int) > 1000000 := by omega
          have hA : A = 0 := by rw [← HA.out, e1]
          have hE : E = .iface 40 (.int .i64 2) := by rw [← HE.out, e2]; rfl
          subst hA hE
          have hm2 : ((n : Int) * 26 + ((b.toNat : Int) - 65) + 1 > 1000000) := by omega
          clear hat HR hl e1 e2 hm hm' hw
          go_wp2_with fail
          exact bodyPost_ret (v := .tuple #[_, _]) (by simp [results, Tryd.results10, go_sem]) rfl ⟨rfl, HB.out⟩
      · obtain ⟨e1, e2⟩ := nr_bad hat (by simpa using hl)
        have hl2 : b.toNat < 65 ∨ 90 < b.toNat := by unfold ltr at hl; simp at hl; omega
        have hA : A = 0 := by rw [← HA.out, e1]
        have hE : E = .iface 40 (.int .i64 2) := by rw [← HE.out, e2]; rfl
        subst hA hE
        clear hat HR hl e1 e2
        rcases hl2 with hl2 | hl2
        · have h1 : (b.toNat : Int) < 65 := by omega
          go_wp2_with fail
          exact bodyPost_ret (v := .tuple #[_, _]) (by simp [results, Tryd.results10, go_sem]) rfl ⟨rfl, HB.out⟩
        · have h1 : ¬ (b.toNat : Int) < 65 := by omega
          have h2 : (b.toNat : Int) > 90 := by omega
          go_wp2_with fail
          exact bodyPost_ret (v := .tuple #[_, _]) (by simp [results, Tryd.results10, go_sem]) rfl ⟨rfl, HB.out⟩
    · have hlt' : ¬ (i : Int) < (s.size : Int) := by omega
      by_cases h0 : n = 0
      · subst h0
        obtain ⟨e1, e2⟩ := nr_nil HR.out (by rw [HSL.out]; omega)
        have hA : A = 0 := by rw [← HA.out, e1]
        have hE : E = .iface 40 (.int .i64 2) := by rw [← HE.out, e2]; rfl
        subst hA hE
        clear HR e1 e2 hcell
        go_wp2_with fail
        exact bodyPost_ret (v := .tuple #[_, _]) (by simp [results, Tryd.results10, go_sem]) rfl ⟨rfl, HB.out⟩
      · obtain ⟨e1, e2⟩ := nr_end HR.out (by rw [HSL.out]; omega) h0
        have h0' : ((n : Int) == 0) = false := by simp; omega
        have hA : A = (n : Int) := by rw [← HA.out, e1]
        have hE : E = .nilIface := by rw [← HE.out, e2]; rfl
        subst hA hE
        clear HR e1 e2 hcell
        go_wp2_with fail
        exact bodyPost_ret (v := .tuple #[_, _]) (by simp [results, Tryd.results10, go_sem]) rfl ⟨rfl, HB.out⟩
/-- Five bytes in a block of their own: what was not written yet, and what was. -/
structure A5 (w : World) (pre t : List UInt8) (wx : World) : Prop where
  blk : wx.heap[w.heap.size]? = some (.cells (bys (pre ++ t)).toArray 44 (0, 0))
  below : Bw w wx
  len : pre.length + t.length = 5
theorem blk_set {w : World} {b o : Nat} {cs : Array Value} {u : Value} {t : TypeId} {f : Nat × Nat} (h : w.heap[b]? = some (.cells cs t f)) : (w.setCell ⟨b, o, none⟩ u).heap[b]? = some (.cells (cs.setIfInBounds o u) t f) := by
  have hlt := (Array.getElem?_eq_some_iff.1 h).1
  have h' : w.heap[b] = .cells cs t f := by simpa [Array.getElem?_eq_getElem hlt] using h
  show (w.heap.modify b _)[b]? = _
  rw [Array.getElem?_eq_getElem (by simpa using hlt), Array.getElem_modify_self, h']
  rfl
theorem A5.set {w : World} {pre t : List UInt8} {x : UInt8} {wx : World} (h : A5 w (pre ++ [x]) t wx) (b : UInt8) : A5 w pre (b :: t) (wx.setCell ⟨w.heap.size, pre.length, none⟩ (.int .u8 (b.toNat : Int))) := by
  refine ⟨?_, h.below.setCell (Nat.le_refl _) _, by have := h.len; simp at this; simp; omega⟩
  rw [blk_set h.blk]
  congr 2
  apply Array.ext'
  rw [Array.toList_setIfInBounds]
  simp [bys]
theorem A5.at {w : World} {pre t : List UInt8} {wx : World} (h : A5 w pre t wx) {i : Nat} {b : UInt8} (hb : (pre ++ t)[i]? = some b) : wx.cell? ⟨w.heap.size, i, none⟩ = some (.int .u8 (b.toNat : Int)) := by
  simp only [World.cell?, h.blk]
  have e : (bys (pre ++ t)).toArray[i]? = some (.int .u8 (b.toNat : Int)) := by
    rw [List.getElem?_toArray]
    unfold bys
    rw [List.getElem?_map, hb]
    rfl
  simpa using e
theorem A5.fz {w : World} {pre t : List UInt8} {wx : World} (h : A5 w pre t wx) (i : Nat) : wx.frozen? ⟨w.heap.size, i, none⟩ = false := by
  unfold World.frozen?
  simp [h.blk]
theorem A5.text {w : World} {pre t : List UInt8} {wx : World} (h : A5 w pre t wx) (c : Nat) : (convert 37 9 (.slice (some ⟨w.heap.size, pre.length, none⟩) t.length c)).run Tryd.prog wx = .ok (.string (txt t)) wx :=
  run_convert_bytes_back (P := Tryd.prog) wx 37 9 5 ⟨w.heap.size, pre.length, none⟩ c t Tryd.underlying37 Tryd.underlying5 Tryd.underlying9 (fun j hj => by
    have ea : (⟨w.heap.size, pre.length, none⟩ : Addr).add j = ⟨w.heap.size, pre.length + j, none⟩ := by simp [Addr.add]
    rw [ea]
    refine h.at ?_
    rw [List.getElem?_append_right (by omega), Nat.add_sub_cancel_left, List.getElem?_eq_getElem hj])
theorem A5.new (w : World) : A5 w [0, 0, 0, 0, 0] [] (w.alloc (.cells #[.int .u8 0, .int .u8 0, .int .u8 0, .int .u8 0, .int .u8 0] 44)) :=
  ⟨heap_alloc_new w _, Bw.al _ _, rfl⟩
set_option maxRecDepth 100000 in
set_option maxHeartbeats 4000000 in
theorem column_any (col : Int) (w : World) :
    Calls Tryd.prog 9 #[.int .i64 col] w fun e w' => e = .returned (.tuple #[.string (coT col), errV (coE col)]) ∧ Bw w w' := by
  cases hB : coB col with
  | false =>
    rw [(co_no hB).1, (co_no hB).2, errV_one]
    have hB2 : col < 1 ∨ 1000000 < col := by unfold coB at hB; simp at hB; omega
    clear hB
    go_enter Tryd.func9, Tryd.ntmps9
    rcases hB2 with h | h
    · go_wp2_with fail
      exact bodyPost_ret (v := .tuple #[_, _]) (by simp [results, Tryd.results9, go_sem]) rfl ⟨rfl, Below.refl _ _⟩
    · have h1 : ¬ col < 1 := by omega
      have h2 : col > 1000000 := by omega
      go_wp2_with fail
      exact bodyPost_ret (v := .tuple #[_, _]) (by simp [results, Tryd.results9, go_sem]) rfl ⟨rfl, Below.refl _ _⟩
  | true =>
    obtain ⟨n0, rfl, hn1, hn2, e1, e2⟩ := co_yes hB
    rw [e1, e2, errV_zero]
    clear e1 e2 hB
    have h1 : ¬ (n0 : Int) < 1 := by omega
    have h2 : ¬ (n0 : Int) > 1000000 := by omega
    obtain ⟨R, hR⟩ : ∃ R, letL n0 = R := ⟨_, rfl⟩
    have HRL : Hid (R.length ≤ 5) := by show _ ≤ _; rw [← hR]; exact letL_cap 5 n0 (by simp only [capL]; omega)
    have HR0 : Hid (letL n0 = R) := hR
    rw [hR]
    clear hR
    go_enter Tryd.func9, Tryd.ntmps9
    go_wp2_with fail
    have HA := A5.new w
    generalize (w.alloc (.cells #[.int .u8 0, .int .u8 0, .int .u8 0, .int .u8 0, .int .u8 0] 44)) = w1 at *
    go_loopw [5, 6] (fun s5 s6 wr => ∃ (n : Nat) (pre t : List UInt8), s6 = .int .i64 (n : Int) ∧ n ≤ 1000000 ∧ s5 = .int .i64 (pre.length : Int) ∧ Hid (letL n ++ t = R) ∧ Hid (A5 w pre t wr)) (fun _ s6 _ => (intOf s6).toNat)
    case atStart => exact ⟨n0, [0, 0, 0, 0, 0], [], rfl, hn2, rfl, by show _ = _; rw [List.append_nil]; exact HR0.out, HA⟩
    case round =>
      obtain ⟨n, pre, t, rfl, hn, rfl, HT, HB⟩ := hrel
      by_cases hp : 0 < n
      · have hp' : (n : Int) > 0 := by omega
        obtain ⟨d, hd⟩ : ∃ d, (n - 1) % 26 = d := ⟨_, rfl⟩
        obtain ⟨q, hq⟩ : ∃ q, (n - 1) / 26 = q := ⟨_, rfl⟩
        have hnq : n = q * 26 + d + 1 := by omega
        have hd2 : d ≤ 25 := by omega
        have hcut2 : pre ≠ [] := by
          intro e0
          have h5 := HB.out.len
          have h6 := HRL.out
          rw [← HT.out, List.length_append, letL_pos hp] at h6
          rw [e0] at h5
          simp at h5 h6
          omega
        obtain ⟨pr, x, rfl⟩ : ∃ pr x, pre = pr ++ [x] := ⟨pre.dropLast, pre.getLast hcut2, (List.dropLast_concat_getLast hcut2).symm⟩
        have HT2 : Hid (letL q ++ (UInt8.ofNat (65 + d) :: t) = R) := by
          show _ = _
          rw [← HT.out, letL_pos hp, hq, hd]
          simp
        have HA2 := HB.out.set (UInt8.ofNat (65 + d))
        rw [show (UInt8.ofNat (65 + d)).toNat = 65 + d from digit_toNat d (by omega)] at HA2
        have hce := HB.out.at (i := pr.length) (b := x) (by simp)
        have hfz := HB.out.fz pr.length
        have hpl : (pr ++ [x]).length = pr.length + 1 := by simp
        have hlen := HB.out.len
        rw [hpl] at hlen ⊢
        have hk5 : pr.length < 5 := by omega
        obtain ⟨k, hk⟩ : ∃ k, pr.length = k := ⟨_, rfl⟩
        have HK : Hid (pr.length = k) := hk
        rw [hk] at HA2 hce hfz hlen hk5 ⊢
        have hki : ((k + 1 : Nat) : Int) - 1 = (k : Int) := by omega
        have hk0 : (0 : Int) ≤ (k : Int) := by omega
        have hk6 : (k : Int) < 5 := by omega
        have er : ((n : Int) - 1).tmod 26 = (d : Int) := by rw [Int.tmod_eq_emod_of_nonneg (by omega)]; omega
        have eq' : ((n : Int) - 1).tdiv 26 = (q : Int) := by rw [Int.tdiv_eq_ediv_of_nonneg (by omega)]; omega
        have hu8 : IntKind.u8.wrap (d : Int) = (d : Int) := by first | (rw [IntKind.wrap_u8]; omega) | (show ((d : Int)) % 256 = _; omega)
        have hu82 : IntKind.u8.wrap (65 + (d : Int)) = 65 + (d : Int) := by first | (rw [IntKind.wrap_u8]; omega) | (show (65 + (d : Int)) % 256 = _; omega)
        have HA3 : Hid (A5 w pr (UInt8.ofNat (65 + d) :: t) (wr.setCell ⟨w.heap.size, k, none⟩ (.int .u8 (65 + (d : Int))))) := by
          rw [show (65 + (d : Int)) = ((65 + d : Nat) : Int) by omega]
          exact HA2
        generalize UInt8.ofNat (65 + d) = B at *
        have hqn : q < n := by omega
        have hq' : q ≤ 1000000 := by omega
        clear HA2 HB HT hd hq hnq hcut2 hpl hk hlen
        go_wp2_with fail
        exact ⟨⟨q, pr, B :: t, rfl, hq', by rw [HK.out], HT2, HA3⟩, by simp [intOf]; omega⟩
      · have hp' : ¬ (n : Int) > 0 := by omega
        have h0 : n = 0 := by omega
        subst h0
        have HE : Hid (t = R) := by show _ = _; have := HT.out; rwa [letL_zero, List.nil_append] at this
        have hl := HB.out.len
        have hle : t.length ≤ 5 := by omega
        have hpos : 0 < t.length := by
          have := HR0.out
          rw [← HE.out, letL_pos hn1] at this
          rw [← this]
          simp
        have hcv := HB.out.text t.length
        have HBB := HB.out.below
        obtain ⟨k, hk⟩ : ∃ k, pre.length = k := ⟨_, rfl⟩
        rw [hk] at hcv hl ⊢
        obtain ⟨m, hm⟩ : ∃ m, t.length = m := ⟨_, rfl⟩
        rw [hm] at hcv hl hpos hle
        have hm2 : m = 5 - k := by omega
        have hk5 : k < 5 := by omega
        have hk6 : (k : Int) < 5 := by omega
        have hk7 : (k : Int) ≤ 5 := by omega
        have hk8 : (0 : Int) ≤ (k : Int) := by omega
        subst hm2
        clear hk hm hl HT HB
        go_wp2_with fail
        exact bodyPost_ret (v := .tuple #[.string (txt t), .nilIface]) (by simp [results, Tryd.results9, go_sem]) rfl ⟨by rw [HE.out], HBB⟩
end Go.Proofs.YtnelglmbckgbgaaDoor.fw
