
/- The document's Count: how often a part stands in a text, and the text with another one in its place, walked. Conditions: as each theorem says. -/
import Derived.Test.YtlaeoofjoofbcaaGreatDoorFwa
import Derived.BigQuiet
namespace Go.Proofs.YtlaeoofjoofbcaaGreatDoor.fw
open Go.RowKit Go.Sort
/-- How often a part stands in a text, none over another one, and the text with another one in its place. -/
def cntL (p b : List UInt8) : List UInt8 → Nat × List UInt8
  | [] => (0, [])
  | c :: s => if _h : p.isPrefixOf (c :: s) = true ∧ p ≠ [] then ((cntL p b ((c :: s).drop p.length)).1 + 1, b ++ (cntL p b ((c :: s).drop p.length)).2)
    else ((cntL p b s).1, c :: (cntL p b s).2)
termination_by s => s.length
decreasing_by
  · have : 0 < p.length := List.length_pos_iff.2 _h.2
    simp
    omega
  · simp
theorem cnt_nil (p b : List UInt8) : cntL p b [] = (0, []) := by unfold cntL; rfl
theorem cnt_yes {p b s : List UInt8} (h : p.isPrefixOf s = true) (hp : p ≠ []) : cntL p b s = ((cntL p b (s.drop p.length)).1 + 1, b ++ (cntL p b (s.drop p.length)).2) := by
  cases s with
  | nil =>
    cases p with
    | nil => exact absurd rfl hp
    | cons a p => simp at h
  | cons c s =>
    conv => lhs; unfold cntL
    rw [dif_pos ⟨h, hp⟩]
theorem cnt_no {p b s : List UInt8} {c : UInt8} (h : p.isPrefixOf (c :: s) = false) : cntL p b (c :: s) = ((cntL p b s).1, c :: (cntL p b s).2) := by
  conv => lhs; unfold cntL
  rw [dif_neg (fun x => by rw [h] at x; cases x.1)]
theorem cnt_le (p b : List UInt8) : ∀ (k : Nat) (s : List UInt8), s.length ≤ k → (cntL p b s).1 ≤ s.length ∧ (cntL p b s).2.length ≤ s.length * (b.length + 1) := by
  intro k
  induction k with
  | zero => intro s hs; have : s = [] := List.eq_nil_of_length_eq_zero (by omega); subst this; rw [cnt_nil]; simp
  | succ k ih =>
    intro s hs
    cases s with
    | nil => rw [cnt_nil]; simp
    | cons c s =>
      by_cases h : p.isPrefixOf (c :: s) = true ∧ p ≠ []
      · rw [cnt_yes h.1 h.2]
        have hp : 0 < p.length := List.length_pos_iff.2 h.2
        have h1 := ih ((c :: s).drop p.length) (by rw [List.length_drop]; simp at hs ⊢; omega)
        have hl : ((c :: s).drop p.length).length ≤ s.length := by rw [List.length_drop]; simp; omega
        have h3 : ((c :: s).drop p.length).length * (b.length + 1) ≤ s.length * (b.length + 1) := Nat.mul_le_mul_right _ hl
        refine ⟨by simp; omega, ?_⟩
        simp only [List.length_append, List.length_cons, Nat.add_mul, Nat.one_mul] at h1 h3 ⊢
        omega
      · have h2 : cntL p b (c :: s) = ((cntL p b s).1, c :: (cntL p b s).2) := by
          conv => lhs; unfold cntL
          rw [dif_neg h]
        rw [h2]
        have h1 := ih s (by simp at hs; omega)
        refine ⟨by simp; omega, ?_⟩
        simp only [List.length_cons, Nat.add_mul, Nat.one_mul]
        omega
theorem pre_ext {s p : ByteArray} {i : Nat} : ((s.extract i (i + p.size)).toList == p.toList) = p.toList.isPrefixOf (s.toList.drop i) := by
  have e : (s.extract i (i + p.size)).toList = (s.toList.drop i).take p.size := by
    rw [ByteArray.toList_eq, ByteArray.toList_eq]
    simp
  rw [e, Bool.eq_iff_iff, beq_iff_eq, List.isPrefixOf_iff_prefix, List.prefix_iff_eq_take, size_list]
  exact ⟨fun h => h.symm, fun h => h.symm⟩
theorem pre_long {s p : ByteArray} {i : Nat} (h : ¬ i + p.size ≤ s.size) (hi : i ≤ s.size) : p.toList.isPrefixOf (s.toList.drop i) = false := by
  rw [Bool.eq_false_iff]
  intro e
  rw [List.isPrefixOf_iff_prefix] at e
  have := e.length_le
  rw [List.length_drop, size_list, size_list] at this
  omega
/-- How far a text is read. -/
def CN (s p b R : List UInt8) (N : Nat) (i n : Nat) (X : List UInt8) : Prop := n + (cntL p b (s.drop i)).1 = N ∧ X ++ (cntL p b (s.drop i)).2 = R
set_option maxRecDepth 1000000 in
set_option maxHeartbeats 8000000 in
theorem rcount_any (s p b : ByteArray) (w : World) (hs : s.size ≤ 200) (hp : p.size ≤ 140737488355328) (hp0 : 0 < p.size) (hb : b.size ≤ 200) :
    Calls Tryz.prog 7 #[.string s, .string p, .string b] w fun e w' => e = .returned (.tuple #[.int .i64 ((cntL p.toList b.toList s.toList).1 : Int), .string (txt (cntL p.toList b.toList s.toList).2)]) ∧ Bw w w' := by
  have hle := cnt_le p.toList b.toList s.toList.length s.toList (Nat.le_refl _)
  have hpne : p.toList ≠ [] := by intro e; have := size_list p; rw [e] at this; simp at this; omega
  obtain ⟨N, hN⟩ : ∃ N, (cntL p.toList b.toList s.toList).1 = N := ⟨_, rfl⟩
  obtain ⟨R, hR⟩ : ∃ R, (cntL p.toList b.toList s.toList).2 = R := ⟨_, rfl⟩
  have HS0 : Hid (CN s.toList p.toList b.toList R N 0 0 []) := ⟨by simp [hN], by simp [hR]⟩
  have hN200 : N ≤ 200 := by rw [← hN]; have := size_list s; omega
  have hRL : R.length ≤ 100000 := by
    rw [← hR]
    refine Nat.le_trans hle.2 ?_
    rw [size_list, size_list]
    have : s.size * (b.size + 1) ≤ 200 * 201 := Nat.mul_le_mul hs (by omega)
    omega
  rw [hN, hR]
  clear hle hN hR
  have HPN : Hid (p.toList ≠ []) := hpne
  clear hpne
  go_enter Tryz.func7, Tryz.ntmps7
  go_wp2_with fail
  go_loopw [8, 9, 10] (fun s8 s9 s10 wr => ∃ (i n : Nat) (X : List UInt8), s10 = .int .i64 (i : Int) ∧ s8 = .int .i64 (n : Int) ∧ i ≤ s.size ∧ n ≤ 200 ∧ Hid (CN s.toList p.toList b.toList R N i n X) ∧ Hid (BV w s9 X wr) ∧ X.length ≤ 100000) (fun _ _ s10 _ => s.size - (intOf s10).toNat)
  case atStart => exact ⟨0, 0, [], rfl, rfl, Nat.zero_le _, Nat.zero_le _, HS0, BV.nil w, by simp⟩
  case round =>
    obtain ⟨i, n, X, rfl, rfl, hi, hn, HC, HV, hX⟩ := hrel
    obtain ⟨pp, cc, e9, hform⟩ := HV.out.form
    subst e9
    by_cases hlt : i < s.size
    · have hlt' : (i : Int) < (s.size : Int) := by omega
      have hi0 : (0 : Int) ≤ (i : Int) := by omega
      have hat : s.toList[i]? = some s[i] := by
        rw [ByteArray.toList_eq, Array.getElem?_toList]
        exact Array.getElem?_eq_getElem hlt
      have hdr : s.toList.drop i = s[i] :: s.toList.drop (i + 1) := by
        rw [List.drop_eq_getElem_cons (by rw [size_list]; exact hlt)]
        congr 1
        exact (List.getElem?_eq_some_iff.1 hat).2
      cases hq : p.toList.isPrefixOf (s.toList.drop i) with
      | true =>
        have hle2 : i + p.size ≤ s.size := by
          rcases Nat.lt_or_ge s.size (i + p.size) with h | h
          · rw [pre_long (by omega) hi] at hq; cases hq
          · exact h
        have hx := pre_ext (s := s) (p := p) (i := i)
        rw [hq] at hx
        have hcs := cnt_yes (b := b.toList) hq HPN.out
        have HC2 : Hid (CN s.toList p.toList b.toList R N (i + p.size) (n + 1) (X ++ b.toList)) := by
          obtain ⟨c1, c2⟩ := HC.out
          rw [hcs] at c1 c2
          rw [List.drop_drop, size_list] at c1 c2
          exact ⟨by simp only at c1; omega, by rw [← c2]; simp⟩
        have hXL : (X ++ b.toList).length ≤ 100000 := by have := HC2.out.2; rw [← this] at hRL; simp at hRL ⊢; omega
        have hn2 : n + 1 ≤ 200 := by have := HC2.out.1; omega
        obtain ⟨v4, w4, hr4, hV4⟩ := HV.out.str b (by omega)
        have HR4 : Hid ((Builtin.append_ #[50, 9] 50 #[.slice pp X.length cc, .string b]).run Tryz.prog wr = .ok v4 w4) := hr4
        have HV4 : Hid (BV w v4 (X ++ b.toList) w4) := hV4
        have h1 : (i : Int) + (p.size : Int) ≤ (s.size : Int) := by omega
        have h2 : (0 : Int) ≤ (i : Int) + (p.size : Int) := by omega
        have h3 : (i : Int) ≤ (i : Int) + (p.size : Int) := by omega
        clear hr4 hV4 HV HC hcs hat hdr hq hform
        generalize X.length = xl at *
        go_wp2_with (first | (at_builtin; refine wpList_append_eq rfl _ _ 50 9 rfl _ _ _ _ rfl rfl HR4.out ?_))
        exact ⟨⟨i + p.size, n + 1, X ++ b.toList, by congr 1, rfl, hle2, hn2, HC2, HV4, hXL⟩, by simp [intOf]; omega⟩
      | false =>
        have HC2 : Hid (CN s.toList p.toList b.toList R N (i + 1) n (X ++ [s[i]])) := by
          obtain ⟨c1, c2⟩ := HC.out
          rw [hdr] at hq c1 c2
          rw [cnt_no hq] at c1 c2
          exact ⟨c1, by rw [← c2]; simp⟩
        have hXL : (X ++ [s[i]]).length ≤ 100000 := by have := HC2.out.2; rw [← this] at hRL; simp at hRL ⊢; omega
        by_cases hle2 : i + p.size ≤ s.size
        · have hx := pre_ext (s := s) (p := p) (i := i)
          rw [hq] at hx
          have h1 : (i : Int) + (p.size : Int) ≤ (s.size : Int) := by omega
          have h2 : (0 : Int) ≤ (i : Int) + (p.size : Int) := by omega
          have h3 : (i : Int) ≤ (i : Int) + (p.size : Int) := by omega
          obtain ⟨g2, c2, w3, hr, hV3⟩ := HV.out.one (by omega) s[i]
          have HV3 : Hid (BV w (.slice (some ⟨g2, 0, none⟩) (X.length + 1) c2) (X ++ [s[i]]) w3) := hV3
          have HRR : Hid ((Builtin.append_ #[50, 50] 50 #[.slice pp X.length cc, .slice (some ⟨wr.heap.size, 0, none⟩) 1 1]).run Tryz.prog (wr.alloc (.cells #[.int .u8 (s[i].toNat : Int)] 5)) = .ok (.slice (some ⟨g2, 0, none⟩) (X.length + 1) c2) w3) := hr
          clear hr hV3 HV HC hat hdr hq hform
          generalize X.length = xl at *
          go_wp2_with (first | (at_builtin; refine wpList_append_eq rfl _ _ 50 50 rfl _ _ _ _ rfl rfl HRR.out ?_))
          exact ⟨⟨i + 1, n, X ++ [s[i]], rfl, rfl, hlt, hn, HC2, HV3, hXL⟩, by simp [intOf]; omega⟩
        · have h1 : ¬ (i : Int) + (p.size : Int) ≤ (s.size : Int) := by omega
          obtain ⟨g2, c2, w3, hr, hV3⟩ := HV.out.one (by omega) s[i]
          have HV3 : Hid (BV w (.slice (some ⟨g2, 0, none⟩) (X.length + 1) c2) (X ++ [s[i]]) w3) := hV3
          have HRR : Hid ((Builtin.append_ #[50, 50] 50 #[.slice pp X.length cc, .slice (some ⟨wr.heap.size, 0, none⟩) 1 1]).run Tryz.prog (wr.alloc (.cells #[.int .u8 (s[i].toNat : Int)] 5)) = .ok (.slice (some ⟨g2, 0, none⟩) (X.length + 1) c2) w3) := hr
          clear hr hV3 HV HC hat hdr hq hform
          generalize X.length = xl at *
          go_wp2_with (first | (at_builtin; refine wpList_append_eq rfl _ _ 50 50 rfl _ _ _ _ rfl rfl HRR.out ?_))
          exact ⟨⟨i + 1, n, X ++ [s[i]], rfl, rfl, hlt, hn, HC2, HV3, hXL⟩, by simp [intOf]; omega⟩
    · have hlt' : ¬ (i : Int) < (s.size : Int) := by omega
      have hd0 : s.toList.drop i = [] := by rw [List.drop_eq_nil_iff, size_list]; omega
      have hC := HC.out
      unfold CN at hC
      rw [hd0, cnt_nil] at hC
      have hn1 : n = N := by simpa using hC.1
      have hX1 : X = R := by simpa using hC.2
      have HCV : ∀ m, (convert 50 9 (.slice pp X.length cc)).run Tryz.prog (wr.drewN m) = .ok (.string (txt X)) (wr.drewN m) := fun m => by
        rcases hform with ⟨h0, rfl, rfl⟩ | ⟨g, rfl, -⟩
        · rw [h0, List.eq_nil_of_length_eq_zero h0]
          exact nil_text _
        · have := (HV.out.next ⟨rfl, rfl, rfl, Nat.le_refl _, fun _ _ => rfl⟩ : BV w _ X (wr.drewN m)).text X.length cc (Nat.le_refl _)
          rwa [List.take_length] at this
      have HB : Hid (Bw w wr) := HV.out.below
      have HTX : Hid (txt X = txt R) := by rw [hX1]; rfl
      subst hn1
      clear hX1 hC HC HV hform hd0 HS0
      generalize X.length = xl at *
      generalize txt X = TX at *
      go_upto_region 11 with fail
      go_quiet (fail)
      go_wp2_with fail
      exact bodyPost_ret (v := .tuple #[.int .i64 (n : Int), .string TX]) (by simp [results, Tryz.results7, go_sem]) rfl ⟨by rw [HTX.out], HB.out.tr ⟨rfl, rfl, rfl, Nat.le_refl _, fun _ _ => rfl⟩⟩
end Go.Proofs.YtlaeoofjoofbcaaGreatDoor.fw
