
/- Two lists of numbers held against each other; the law SortDistinct. Conditions: as each theorem says. -/
import Derived.Test.YtehamdkjdbaceaaDoorRc
import Derived.Test.YtehamdkjdbaceaaDoorAs
namespace Go.Proofs.YtehamdkjdbaceaaDoor.so
open Go.RowKit Go.Sort Go.Shelf
/-- Are two lists the same? -/
def sameI (n : Nat) (a : Nat → Int) (m : Nat) (b : Nat → Int) : Bool := n == m && (List.range n).all fun i => a i == b i
theorem sameI_true {n : Nat} {a : Nat → Int} {m : Nat} {b : Nat → Int} : sameI n a m b = true ↔ n = m ∧ ∀ i, i < n → a i = b i := by
  unfold sameI
  simp
theorem sameI_false {n : Nat} {a : Nat → Int} {m : Nat} {b : Nat → Int} {i : Nat} (hi : i < n) (h : a i ≠ b i) : sameI n a m b = false := by
  cases e : sameI n a m b with
  | false => rfl
  | true => exact absurd ((sameI_true.1 e).2 i hi) h
set_option maxRecDepth 100000 in
set_option maxHeartbeats 4000000 in
theorem rints_any (p1 : Option Addr) (n c1 : Nat) (a : Nat → Int) (p2 : Option Addr) (m c2 : Nat) (b : Nat → Int) (w : World) (h1 : IM w p1 n a) (h2 : IM w p2 m b) (hn : n ≤ 9223372036854775807) (hm : m ≤ 9223372036854775807) :
    Calls Tryd.prog 11 #[.slice p1 n c1, .slice p2 m c2] w fun e w' => e = .returned (.bool (sameI n a m b)) ∧ Bw w w' := by
  have H1 : Hid (IM w p1 n a) := h1
  have H2 : Hid (IM w p2 m b) := h2
  clear h1 h2
  by_cases hne : n = m
  · subst hne
    obtain ⟨A, hA⟩ : ∃ A, sameI n a n b = A := ⟨_, rfl⟩
    have HA : Hid (sameI n a n b = A) := hA
    rw [hA]
    clear hA
    have mixed := mixed
    go_enter Tryd.func11, Tryd.ntmps11
    go_wp2_with fail
    go_loopw [5] (fun i wr => ∃ j : Nat, i = .int .i64 j ∧ j ≤ n ∧ Hid (Bw w wr) ∧ Hid (∀ i, i < j → a i = b i)) (fun i _ => n - (intOf i).toNat)
    case atStart => exact ⟨0, rfl, Nat.zero_le _, Below.refl _ _, fun i hi => absurd hi (Nat.not_lt_zero _)⟩
    case round =>
      obtain ⟨j, rfl, hj, HB, HD⟩ := hrel
      by_cases hlt : j < n
      · have hlt' : (j : Int) < (n : Int) := by omega
        have hj0 : (0 : Int) ≤ (j : Int) := by omega
        rcases H1.out.next HB.out with h | ⟨g1, o1, rfl, hg1, h1⟩
        · omega
        rcases H2.out.next HB.out with h | ⟨g2, o2, rfl, hg2, h2⟩
        · omega
        have y1 := h1 j hlt
        have y2 := h2 j hlt
        clear h1 h2 hg1 hg2
        have y1q : ∀ m, (wr.drewN m).cell? ⟨g1, o1 + j, none⟩ = some (.int .i64 (a j)) := fun m => y1
        have y2q : ∀ m, (wr.drewN m).cell? ⟨g2, o2 + j, none⟩ = some (.int .i64 (b j)) := fun m => y2
        clear y1 y2
        obtain ⟨x, hx⟩ : ∃ x, a j = x := ⟨_, rfl⟩
        obtain ⟨y, hy⟩ : ∃ y, b j = y := ⟨_, rfl⟩
        have HX : Hid (a j = x ∧ b j = y) := ⟨hx, hy⟩
        rw [hx] at y1q
        rw [hy] at y2q
        clear hx hy
        by_cases hxy : x = y
        · subst hxy
          go_wp2_with fail
          go_quiet (fail)
          go_wp2_with fail
          exact ⟨⟨j + 1, by simp, hlt, HB.out.tr (Bw.drewN _ _), fun i hi => by
            by_cases e : i = j
            · subst e; rw [HX.out.1, HX.out.2]
            · exact HD.out i (by omega)⟩, by simp [intOf]; omega⟩
        · have HF : Hid (A = false) := by show A = false; rw [← HA.out]; exact sameI_false hlt (by rw [HX.out.1, HX.out.2]; exact hxy)
          have hxy' : (x != y) = true := by simp; exact hxy
          go_wp2_with fail
          go_quiet (fail)
          go_wp2_with fail
          go_ret
          exact ⟨by rw [HF.out]; rfl, HB.out.tr (Bw.drewN _ _)⟩
      · have hj2 : ¬ (j : Int) < (n : Int) := by omega
        go_wp2_with fail
        go_ret
        exact ⟨by rw [← HA.out, sameI_true.2 ⟨rfl, fun i hi => HD.out i (by omega)⟩]; rfl, HB.out⟩
  · have e : sameI n a m b = false := by
      cases e : sameI n a m b with
      | false => rfl
      | true => exact absurd (sameI_true.1 e).1 hne
    rw [e]
    have hne' : ((n : Int) != (m : Int)) = true := by simp; omega
    clear e hne
    go_enter Tryd.func11, Tryd.ntmps11
    go_wp2_with fail
    go_ret
    exact ⟨rfl, Below.refl _ _⟩
theorem rsame_any (e m : Int) (w : World) (hg : ErrTy w) : Calls Tryd.prog 7 #[errV e, .int .i64 m] w fun r w' => r = .returned (.bool (e == m)) ∧ Bw w w' := by
  by_cases h : e = 0
  · subst h; exact same_nil m w
  · rw [errV_of h]; exact same_errno e m w hg
theorem errTy_next {w w' : World} (h : ErrTy w) (hb : Bw w w') : ErrTy w' := ⟨Nat.lt_of_lt_of_le h.1 hb.size, by rw [hb.cell (p := ⟨_, _, none⟩) h.1]; exact h.2⟩
set_option maxRecDepth 100000 in
set_option maxHeartbeats 4000000 in
theorem sortDistinct_any (T : Tb) (p : Option Addr) (c : Nat) (p2 : Option Addr) (n c2 : Nat) (d : Nat → Int) (w : World) (hT : TM w p T) (hI : IM w p2 n d) (hq : T.q ≤ 9223372036854775807) (hn : n ≤ 9223372036854775807) (hL : ∀ i, i < T.q → T.L i ≤ 9223372036854775807) (hpc : T.q ≤ c) (hg : ErrTy w) :
    Calls Tryd.prog 4 #[.slice p T.q c, .slice p2 n c2] w fun e w' => e = .returned (.bool true) ∧ Bw w w' := by
  have H1 := rcolumns_any T p c p2 n c2 d w hT hI hq hn hL
  have HD : Hid (∀ wx, Bw w wx → Calls Tryd.prog 15 #[.slice p T.q c, .slice p2 n c2] wx fun e w' => (∃ x v, e = .returned (.tuple #[v, errV x]) ∧ CF T n d x ∧ (x ≠ 0 → v = .slice none 0 0) ∧ (x = 0 → ∃ W, Bw wx W ∧ IV W v (dst T n d T.q) w')) ∧ Bw wx w') := fun wx hb => distinct_any T p c p2 n c2 d wx (hT.next hb) (hI.next hb) hq hn hL hpc
  have HR : Hid (CF T n d 0 → ∀ wx, Bw w wx → Calls Tryd.prog 14 #[.slice p T.q c, .slice p2 n c2] wx fun e w' => ∃ v, e = .returned v ∧ IV wx v (dst T n d T.q) w') := fun h wx hb => rdistinct_any T p c p2 n c2 d wx (hT.next hb) (hI.next hb) h.zero.1 h.zero.2.1 h.zero.2.2
  have HG : Hid (ErrTy w) := hg
  have HLQ : Hid ((dst T n d T.q).length ≤ T.q) := dst_len _ _ _ _
  obtain ⟨q, eq⟩ : ∃ q, T.q = q := ⟨_, rfl⟩
  rw [eq] at H1 HD HR hq hpc HLQ ⊢
  clear hT hI hL hg eq
  have mixed := mixed
  go_enter Tryd.func4, Tryd.ntmps4
  go_wp2_with fail
  refine H1.mono ?_
  clear H1
  rintro e w1 ⟨⟨x, rfl, hx⟩, hb⟩
  have HX : Hid (CF T n d x) := hx
  have HB : Hid (Bw w w1) := hb
  clear hx hb
  by_cases hx0 : x = 0
  · subst hx0
    have HRR := HR.out HX.out w1 HB.out
    go_wp2_with fail
    refine HRR.mono ?_
    clear HRR
    rintro e w2 ⟨v, rfl, hv⟩
    have HV : Hid (IV w1 v (dst T n d q) w2) := hv
    have HB2 : Hid (Bw w w2) := HB.out.tr hv.below
    clear hv
    have HDD := HD.out w2 HB2.out
    go_wp2_with fail
    refine HDD.mono ?_
    clear HDD
    rintro e w3 ⟨⟨x, v', rfl, hx, -, hv'⟩, hb⟩
    have hx0 := hx.one HX.out
    subst hx0
    obtain ⟨W, -, hIV'⟩ := hv' rfl
    obtain ⟨pa, ca, rfl, hia⟩ := hIV'.im
    obtain ⟨pb, cb, rfl, hib⟩ := HV.out.im
    have HB3 : Hid (Bw w w3) := HB2.out.tr hb
    have HIA : Hid (IM w3 pa (dst T n d q).length (fun i => (dst T n d q).getD i 0)) := hia
    have HIB : Hid (IM w3 pb (dst T n d q).length (fun i => (dst T n d q).getD i 0)) := hib.next hb
    clear hx hv' hIV' hia hib hb HV
    obtain ⟨ln, hln⟩ : ∃ ln, (dst T n d q).length = ln := ⟨_, rfl⟩
    rw [hln] at HIA HIB HLQ ⊢
    clear hln
    have HS := rsame_any 0 0 w3 (errTy_next HG.out HB3.out)
    rw [errV_0] at HS ⊢
    have e0 : ((0 : Int) == 0) = true := rfl
    rw [e0] at HS
    clear e0
    go_wp2_with fail
    refine HS.mono ?_
    clear HS
    rintro e w4 ⟨rfl, hb4⟩
    have HII := rints_any pa ln ca _ pb ln cb _ w4 (HIA.out.next hb4) (HIB.out.next hb4) (by have := HLQ.out; omega) (by have := HLQ.out; omega)
    rw [sameI_true.2 ⟨rfl, fun _ _ => rfl⟩] at HII
    have HB4 : Hid (Bw w w4) := HB3.out.tr hb4
    clear hb4 HIA HIB
    go_wp2_with fail
    refine HII.mono ?_
    clear HII
    rintro e w5 ⟨rfl, hb5⟩
    have HB5 : Hid (Bw w w5) := HB4.out.tr hb5
    clear hb5
    go_wp2_with fail
    go_ret
    exact ⟨rfl, HB5.out⟩
  · have HDD := HD.out w1 HB.out
    go_wp2_with fail
    refine HDD.mono ?_
    clear HDD
    rintro e w3 ⟨⟨y, v', rfl, hx, hv', -⟩, hb⟩
    have hy := hx.one HX.out
    subst hy
    have hv := hv' hx0
    subst hv
    have HB3 : Hid (Bw w w3) := HB.out.tr hb
    have HS := rsame_any y y w3 (errTy_next HG.out HB3.out)
    have e0 : (y == y) = true := by simp
    rw [e0] at HS
    clear hx hv' hb e0
    rw [errV_of hx0] at HS ⊢
    go_wp2_with fail
    refine HS.mono ?_
    clear HS
    rintro e w4 ⟨rfl, hb4⟩
    have HII := rints_any none 0 0 (fun _ => 0) none 0 0 (fun _ => 0) w4 (.inl rfl) (.inl rfl) (by omega) (by omega)
    rw [sameI_true.2 ⟨rfl, fun _ _ => rfl⟩] at HII
    have HB4 : Hid (Bw w w4) := HB3.out.tr hb4
    clear hb4
    go_wp2_with fail
    refine HII.mono ?_
    clear HII
    rintro e w5 ⟨rfl, hb5⟩
    have HB5 : Hid (Bw w w5) := HB4.out.tr hb5
    clear hb5
    go_wp2_with fail
    go_ret
    exact ⟨rfl, HB5.out⟩
end Go.Proofs.YtehamdkjdbaceaaDoor.so
