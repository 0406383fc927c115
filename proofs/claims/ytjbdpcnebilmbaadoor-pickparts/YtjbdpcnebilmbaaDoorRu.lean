
/- The law PickParts, by what Pick and Any answer. Conditions: as each theorem says. -/
import Derived.Test.YtjbdpcnebilmbaaDoorSn
import Derived.Test.YtjbdpcnebilmbaaDoorRt
import Derived.Test.YtjbdpcnebilmbaaDoorRk
namespace Go.Proofs.YtjbdpcnebilmbaaDoor.so
open Go.RowKit Go.Sort Go.Shelf
/-- The table and the want of the example. -/
def T0 (b1 b2 : Nat) : Tb := ⟨2, fun i => some ⟨if i = 0 then b1 else b2, 0, none⟩, fun _ => 1, fun _ => 1, fun i _ => ⟨1, if i = 0 then 2 else 1, nul⟩⟩
def f0 (_ : Nat) : Wt := ⟨0, 3, ⟨1, 2, nul⟩⟩
theorem ok0 (n : Int) : (⟨1, n, nul⟩ : Vl).ok = true := by
  show isVal 1 n nul = true
  rw [isVal, if_neg (by omega), if_pos rfl]
  first | rfl | decide +kernel | simp [nul]
theorem wf0 (b1 b2 : Nat) : WF (T0 b1 b2) 1 f0 0 := by
  refine .inr ⟨.inr (.inr (.inr (.inr ⟨rfl, ⟨by show 2 ≤ 60; omega, fun i _ => by show 1 ≤ 12; omega, fun i _ => rfl, fun i hi j hj => ok0 _⟩⟩))), .inr (.inr ⟨rfl, by decide, fun i hi => ?_⟩)⟩
  exact ⟨⟨by show (0 : Int) ≤ 0; omega, by show (0 : Int) < ((1 : Nat) : Int); omega⟩, ok0 2, by show (1 : Int) ≤ 3; omega, by show (3 : Int) ≤ 6; omega⟩
theorem sel0 (b1 b2 : Nat) : sel (metA (T0 b1 b2) 1 f0) 2 = [1] := by
  have h0 : metA (T0 b1 b2) 1 f0 0 = false := by rw [metA_1]; rfl
  have h1 : metA (T0 b1 b2) 1 f0 1 = true := by rw [metA_1]; rfl
  rw [sel_yes h1, sel_no h0]
  rfl
theorem fact_any (hP : AllP 4 metA) {w1 w2 w3 : World} (hb2 : Bw (w1.alloc (.cells #[.int .i64 1, .int .i64 2, .string nul] 30)) w2) (hb3 : Bw ((w2.alloc (.cells #[.int .i64 1, .int .i64 1, .string nul] 30)).alloc (.cells #[.slice (some ⟨w1.heap.size, 0, none⟩) 1 1, .slice (some ⟨w2.heap.size, 0, none⟩) 1 1] 32)) w3) :
    Calls Tryd.prog 4 #[.slice (some ⟨w2.heap.size + 1, 0, none⟩) 2 2, .slice (some ⟨w3.heap.size, 0, none⟩) 1 1] (w3.alloc (.cells #[.int .i64 0, .int .i64 3, .int .i64 1, .int .i64 2, .string nul] 34)) fun e w' => ∃ g o c, e = .returned (.tuple #[.slice (some ⟨g, o, none⟩) 1 c, .nilIface]) ∧ w'.cell? ⟨g, o, none⟩ = some (.int .i64 1) ∧ Bw w3 w' := by
  obtain ⟨W, hW⟩ : ∃ W, w3.alloc (.cells #[.int .i64 0, .int .i64 3, .int .i64 1, .int .i64 2, .string nul] 34) = W := ⟨_, rfl⟩
  have hbW : Bw w3 W := by rw [← hW]; exact Bw.al _ _
  have e3 : w2.heap.size + 1 < w3.heap.size := by have := hb3.size; simp at this; omega
  have e2 : w1.heap.size < w2.heap.size := by have := hb2.size; simp at this; omega
  have c1 : ∀ o, W.cell? ⟨w1.heap.size, o, none⟩ = (w1.alloc (.cells #[.int .i64 1, .int .i64 2, .string nul] 30)).cell? ⟨w1.heap.size, o, none⟩ := fun o => by
    rw [hbW.cell (p := ⟨w1.heap.size, o, none⟩) (by show w1.heap.size < _; omega), hb3.cell (p := ⟨w1.heap.size, o, none⟩) (by show w1.heap.size < _; simp; omega), (Bw.al _ _).cell (p := ⟨w1.heap.size, o, none⟩) (by show w1.heap.size < _; simp; omega), (Bw.al _ _).cell (p := ⟨w1.heap.size, o, none⟩) (by show w1.heap.size < _; omega), hb2.cell (p := ⟨w1.heap.size, o, none⟩) (by show w1.heap.size < _; simp)]
  have c2 : ∀ o, W.cell? ⟨w2.heap.size, o, none⟩ = (w2.alloc (.cells #[.int .i64 1, .int .i64 1, .string nul] 30)).cell? ⟨w2.heap.size, o, none⟩ := fun o => by
    rw [hbW.cell (p := ⟨w2.heap.size, o, none⟩) (by show w2.heap.size < _; omega), hb3.cell (p := ⟨w2.heap.size, o, none⟩) (by show w2.heap.size < _; simp; omega), (Bw.al _ _).cell (p := ⟨w2.heap.size, o, none⟩) (by show w2.heap.size < _; simp)]
  have c3 : ∀ o, W.cell? ⟨w2.heap.size + 1, o, none⟩ = ((w2.alloc (.cells #[.int .i64 1, .int .i64 1, .string nul] 30)).alloc (.cells #[.slice (some ⟨w1.heap.size, 0, none⟩) 1 1, .slice (some ⟨w2.heap.size, 0, none⟩) 1 1] 32)).cell? ⟨(w2.alloc (.cells #[.int .i64 1, .int .i64 1, .string nul] 30)).heap.size, o, none⟩ := fun o => by
    rw [hbW.cell (p := ⟨w2.heap.size + 1, o, none⟩) (by show w2.heap.size + 1 < _; omega), hb3.cell (p := ⟨w2.heap.size + 1, o, none⟩) (by show w2.heap.size + 1 < _; simp)]
    simp
  have hTM : TM W (some ⟨w2.heap.size + 1, 0, none⟩) (T0 w1.heap.size w2.heap.size) := by
    refine .inr ⟨w2.heap.size + 1, 0, rfl, Nat.lt_of_lt_of_le e3 hbW.size, fun i hi => ?_⟩
    have hi' : i < 2 := hi
    have : i = 0 ∨ i = 1 := by omega
    rcases this with rfl | rfl
    · refine ⟨by rw [c3]; simp [T0], .inr ⟨w1.heap.size, 0, rfl, by have := hbW.size; omega, fun k hk => ?_⟩⟩
      have : k = 0 := by have hk' : k < 1 := hk; omega
      subst this
      refine ⟨by rw [c1]; simp [T0], by rw [c1]; simp [T0], by rw [c1]; simp [T0]⟩
    · refine ⟨by rw [c3]; simp [T0], .inr ⟨w2.heap.size, 0, rfl, by have := hbW.size; omega, fun k hk => ?_⟩⟩
      have : k = 0 := by have hk' : k < 1 := hk; omega
      subst this
      refine ⟨by rw [c2]; simp [T0], by rw [c2]; simp [T0], by rw [c2]; simp [T0]⟩
  have hWM : WM W (some ⟨w3.heap.size, 0, none⟩) 1 f0 := by
    refine .inr ⟨w3.heap.size, 0, rfl, by rw [← hW]; simp, fun i hi => ?_⟩
    have : i = 0 := by omega
    subst this
    rw [← hW]
    simp [f0]
  rw [hW]
  refine (hP (T0 w1.heap.size w2.heap.size) (some ⟨w2.heap.size + 1, 0, none⟩) 2 (some ⟨w3.heap.size, 0, none⟩) 1 1 f0 W hTM hWM (by show 2 ≤ _; omega) (by omega) (fun i _ => by show 1 ≤ _; omega) (Nat.le_refl 2) (Nat.le_refl 1)).mono ?_
  rintro e w' ⟨⟨x, v, rfl, hx, -, hz⟩, hb⟩
  have ex := hx.one (wf0 _ _)
  subst ex
  obtain ⟨W', -, hv⟩ := hz rfl
  rw [show (T0 w1.heap.size w2.heap.size).q = 2 from rfl, sel0] at hv
  obtain ⟨pv, cv, rfl, him⟩ := hv.im
  rcases him with h | ⟨g, o, rfl, -, h⟩
  · exact absurd h (by decide)
  · exact ⟨g, o, cv, by rw [errV_0]; rfl, by simpa using h 0 (by decide), hbW.tr hb⟩
set_option maxRecDepth 100000 in
set_option maxHeartbeats 8000000 in
theorem pickParts_any (T : Tb) (p : Option Addr) (cp : Nat) (p2 : Option Addr) (n c2 : Nat) (f : Nat → Wt) (w : World) (hT : TM w p T) (hW : WM w p2 n f) (hq : T.q ≤ 9223372036854775807) (hn : n ≤ 9223372036854775807) (hL : ∀ i, i < T.q → T.L i ≤ 9223372036854775807) (hcp : T.q ≤ cp) (hc2 : n ≤ c2)
    (hP : AllP 4 metA) (hA : AllP 6 metO) :
    Calls Tryd.prog 3 #[.slice p T.q cp, .slice p2 n c2] w fun e w' => e = .returned (.bool true) ∧ Bw w w' := by
  have HP : Hid (AllP 4 metA) := hP
  have HA : Hid (AllP 6 metO) := hA
  have HT : Hid (TM w p T) := hT
  have HW : Hid (WM w p2 n f) := hW
  have HL : Hid (∀ i, i < T.q → T.L i ≤ 9223372036854775807) := hL
  obtain ⟨q, eq⟩ : ∃ q, T.q = q := ⟨_, rfl⟩
  have HEQ : Hid (T.q = q) := eq
  rw [eq] at hq hcp ⊢
  clear hT hW hL hP hA eq
  go_enter Tryd.func3, Tryd.ntmps3
  go_wp2_with fail
  refine (rnum_any 2 _).mono ?_
  rintro e w1 ⟨rfl, hb1⟩
  have HB1 : Hid (Bw w w1) := hb1
  clear hb1
  go_wp2_with fail
  refine (rnum_any 1 _).mono ?_
  rintro e w2 ⟨rfl, hb2⟩
  have HB2 : Hid _ := hb2
  clear hb2
  go_wp2_with fail
  refine (rnum_any 2 _).mono ?_
  rintro e w3 ⟨rfl, hb3⟩
  have HB3 : Hid _ := hb3
  clear hb3
  go_wp2_with fail
  refine (fact_any HP.out HB2.out HB3.out).mono ?_
  rintro e w4 ⟨gf, of, cf, rfl, hf, hb4⟩
  have HB4 : Hid (Bw w w4) := (((HB1.out.tr ((Bw.al _ _).tr HB2.out)).tr ((Bw.al _ _).tr (Bw.al _ _))).tr HB3.out).tr hb4
  clear hb4 HB1 HB2 HB3
  have G := HP.out T p cp p2 n c2 f w4 (HT.out.next HB4.out) (HW.out.next HB4.out) (by rw [HEQ.out]; exact hq) hn HL.out (by rw [HEQ.out]; exact hcp) hc2
  rw [HEQ.out] at G
  have GA : Hid (∀ wx, Bw w wx → Calls Tryd.prog 6 #[.slice p q cp, .slice p2 n c2] wx fun e w' => PK T n f (metO T n f) wx e w') := fun wx hb => by
    have := HA.out T p cp p2 n c2 f wx (HT.out.next hb) (HW.out.next hb) (by rw [HEQ.out]; exact hq) hn HL.out (by rw [HEQ.out]; exact hcp) hc2
    rw [HEQ.out] at this
    exact this
  clear HA
  go_wp2_with fail
  refine G.mono ?_
  clear G hf
  rintro e w5 ⟨⟨x, v, rfl, hx, hnil, hz⟩, hb5⟩
  have HX : Hid (WF T n f x) := hx
  have HB5 : Hid (Bw w w5) := HB4.out.tr hb5
  have G := GA.out w5 HB5.out
  clear GA HB4
  by_cases hx0 : x = 0
  · subst hx0
    obtain ⟨Wa, -, hva⟩ := hz rfl
    have HV : Hid (IV Wa v (sel (metA T n f) T.q) w5) := hva
    clear hva hz hnil hx hb5
    rw [errV_0]
    go_wp2_with fail
    refine G.mono ?_
    clear G
    rintro e w6 ⟨⟨x, u, rfl, hx, -, hz⟩, hb6⟩
    have ex := hx.one HX.out
    subst ex
    obtain ⟨Wb, -, hvb⟩ := hz rfl
    have HU : Hid (IV Wb u (sel (metO T n f) T.q) w6) := hvb
    have HV6 : Hid (IV Wa v (sel (metA T n f) T.q) w6) := HV.out.next hb6
    have HB6 : Hid (Bw w w6) := HB5.out.tr hb6
    clear hvb hz hx hb6 HV HB5
    rw [errV_0]
    obtain ⟨pv, cv, rfl, hiv⟩ := HV6.out.im
    obtain ⟨pu, cu, rfl, hiu⟩ := HU.out.im
    have hla := sel_len (metA T n f) T.q
    have hlb := sel_len (metO T n f) T.q
    have HSM : Hid (0 < n → ∀ i k, i < (sel (metA T n f) T.q).length → (∀ t, t < k → (sel (metO T n f) T.q).getD t 0 < (sel (metA T n f) T.q).getD i 0) → (k < (sel (metO T n f) T.q).length → ¬ (sel (metO T n f) T.q).getD k 0 < (sel (metA T n f) T.q).getD i 0) → k ≤ (sel (metO T n f) T.q).length → k < (sel (metO T n f) T.q).length ∧ (sel (metO T n f) T.q).getD k 0 = (sel (metA T n f) T.q).getD i 0) := fun h0 i k h1 h2 h3 h4 => sel_meet (fun t _ ht => metA_O h0 t ht) h1 h2 h3 h4
    have HSL : Hid (∀ i i', i < i' → i' < (sel (metA T n f) T.q).length → (sel (metA T n f) T.q).getD i 0 < (sel (metA T n f) T.q).getD i' 0) := fun i i' h h' => sel_lt h h'
    have hz1 : n = 0 → (sel (metA T n f) T.q).length = q := fun h => by subst h; rw [sel_all (metA_0 T f), HEQ.out]
    have hz2 : n = 0 → (sel (metO T n f) T.q).length = 0 := fun h => by subst h; rw [sel_none (metO_0 T f)]; rfl
    generalize ea : (fun i => (sel (metA T n f) T.q).getD i 0) = a at *
    generalize eb : (fun i => (sel (metO T n f) T.q).getD i 0) = b at *
    have ea' : ∀ i, (sel (metA T n f) T.q).getD i 0 = a i := fun i => congrFun ea i
    have eb' : ∀ i, (sel (metO T n f) T.q).getD i 0 = b i := fun i => congrFun eb i
    simp only [ea', eb'] at HSM HSL
    clear ea eb ea' eb' HU HV6
    generalize (sel (metA T n f) T.q).length = la at *
    generalize (sel (metO T n f) T.q).length = lb at *
    rw [HEQ.out] at hla hlb
    have HIA : Hid (IM w6 pv la a) := hiv
    have HIB : Hid (IM w6 pu lb b) := hiu
    clear hiv hiu
    by_cases hn0 : n = 0
    · have hn1 : ((n : Int) == 0) = true := by simp [hn0]
      have hy1 : ((la : Int) == (q : Int)) = true := by simp [hz1 hn0]
      have hy2 : ((lb : Int) == 0) = true := by simp [hz2 hn0]
      clear hz1 hz2 hn0
      go_wp2_with fail
      go_ret
      exact ⟨by simp, HB6.out⟩
    · have hn1 : ((n : Int) == 0) = false := by simp; omega
      clear hz1 hz2
      have HN : Hid (0 < n) := by show 0 < n; omega
      have mixed := mixed
      go_wp2_with fail
      go_loopw [11, 12] (fun s11 s12 wr => ∃ k i : Nat, s11 = .int .i64 k ∧ s12 = .int .i64 i ∧ i ≤ la ∧ k ≤ lb ∧ Hid (∀ i', i ≤ i' → i' < la → ∀ t, t < k → b t < a i') ∧ Hid (Bw w6 wr)) (fun _ s12 _ => la - (intOf s12).toNat)
      case atStart => exact ⟨0, 0, rfl, rfl, Nat.zero_le _, Nat.zero_le _, fun _ _ _ t ht => absurd ht (Nat.not_lt_zero _), Below.refl _ _⟩
      case round =>
        obtain ⟨k, i, rfl, rfl, hil, hkl, HO, HBr⟩ := hrel
        by_cases hlt : i < la
        · have hlt' : (i : Int) < (la : Int) := by omega
          have hi0 : (0 : Int) ≤ (i : Int) := by omega
          obtain ⟨x, hx⟩ : ∃ x, a i = x := ⟨_, rfl⟩
          have HAX : Hid (a i = x) := hx
          clear hx
          go_wp2_with fail
          go_loopw [11] (fun s11 wr => ∃ k : Nat, s11 = .int .i64 k ∧ k ≤ lb ∧ Hid (∀ t, t < k → b t < a i) ∧ Hid (Bw w6 wr)) (fun s11 _ => lb - (intOf s11).toNat)
          case atStart => exact ⟨k, rfl, hkl, HO.out i (Nat.le_refl _) hlt, HBr⟩
          case round =>
            clear hkl HO HBr
            obtain ⟨k, rfl, hkl, HO, HBr⟩ := hrel
            by_cases hk : k < lb
            · have hk' : (k : Int) < (lb : Int) := by omega
              have hk0 : (0 : Int) ≤ (k : Int) := by omega
              have hkN : ¬ lb ≤ k := by omega
              have hkD : decide (lb ≤ k) = false := by simp; omega
              rcases HIA.out.next HBr.out with h | ⟨g1, o1, rfl, hg1, h1⟩
              · omega
              rcases HIB.out.next HBr.out with h | ⟨g2, o2, rfl, hg2, h2⟩
              · omega
              have y1 := h1 i hlt
              have y2 := h2 k hk
              rw [HAX.out] at y1
              clear h1 h2 hg1 hg2
              obtain ⟨y, hy⟩ : ∃ y, b k = y := ⟨_, rfl⟩
              have HBY : Hid (b k = y) := hy
              rw [hy] at y2
              clear hy
              have y1q : ∀ m, (wr.drewN m).cell? ⟨g1, o1 + i, none⟩ = some (.int .i64 x) := fun m => y1
              have y2q : ∀ m, (wr.drewN m).cell? ⟨g2, o2 + k, none⟩ = some (.int .i64 y) := fun m => y2
              clear y1 y2
              by_cases hyx : y < x
              · go_wp2_with fail
                go_quiet (fail)
                go_wp2_with fail
                exact ⟨⟨k + 1, by simp, hk, fun t ht => by
                  by_cases e : t = k
                  · subst e; rw [HBY.out, HAX.out]; exact hyx
                  · exact HO.out t (by omega), HBr.out.tr (Bw.drewN _ _)⟩, by simp [intOf]; omega⟩
              · have exy : y = x := by
                  have := (HSM.out HN.out i k hlt HO.out (fun _ => by rw [HBY.out, HAX.out]; exact Int.not_lt.1 hyx) hkl).2
                  rw [HBY.out, HAX.out] at this
                  exact this
                subst exy
                have hkE : ((k : Int) == (lb : Int)) = false := by simp; omega
                have hkE' : (k == lb) = false := by simp; omega
                go_wp2_with fail
                go_quiet (fail)
                obtain ⟨wq, hwq⟩ : ∃ W, wr.drewN nq = W := ⟨_, rfl⟩
                have HBq : Hid (Bw w6 wq) := by rw [← hwq]; exact HBr.out.tr (Bw.drewN _ _)
                have y1r : ∀ m, (wq.drewN m).cell? ⟨g1, o1 + i, none⟩ = some (.int .i64 y) := fun m => by rw [← hwq]; exact y1q nq
                have y2r : ∀ m, (wq.drewN m).cell? ⟨g2, o2 + k, none⟩ = some (.int .i64 y) := fun m => by rw [← hwq]; exact y2q nq
                try rw [hwq]
                clear hwq y1q y2q HBr
                go_wp2_with fail
                go_quiet (fail)
                go_wp2_with fail
                exact ⟨⟨k, i + 1, rfl, by simp, hlt, hkl, fun i' h1 h2 t ht => Int.lt_trans (HO.out t ht) (HSL.out i i' h1 h2), HBq.out.tr (Bw.drewN _ _)⟩, by simp [intOf]; omega⟩
            · exact absurd (HSM.out HN.out i k hlt HO.out (fun h => absurd h hk) hkl).1 hk
        · have hlt' : ¬ (i : Int) < (la : Int) := by omega
          have HB7 : Hid (Bw w wr) := HB6.out.tr HBr.out
          obtain ⟨-, hn12, hwo⟩ := HX.out.zero
          have HW0 : Hid (wOk T (f 0)) := hwo 0 HN.out
          rcases HW.out.next HB7.out with h | ⟨gw, ow, rfl, hgw, hw3⟩
          · have := HN.out; omega
          obtain ⟨z0, z1, z2, z3, z4⟩ := hw3 0 HN.out
          simp only [Nat.zero_mul, Nat.add_zero] at z0 z1 z2 z3 z4
          obtain ⟨ax, hax⟩ : ∃ ax, f 0 = ax := ⟨_, rfl⟩
          rw [hax] at HW0 z0 z1 z2 z3 z4
          obtain ⟨xc, xo, ⟨xk, xn, xs⟩⟩ := ax
          have HAX : Hid (f 0 = ⟨xc, xo, ⟨xk, xn, xs⟩⟩) := hax
          dsimp only at z0 z1 z2 z3 z4
          have HGW : Hid (gw < wr.heap.size) := hgw
          clear hw3 hwo hn12 HIA HIB HSM HSL HO HBr HB6 hax hgw mixed
          have h1n : (1 : Int) ≤ (n : Int) := by have := HN.out; omega
          have h1c : (1 : Int) ≤ (c2 : Int) := by omega
          have h0n : (0 : Int) < (n : Int) := by omega
          have HPT : Hid (∀ wx g o c (f' : Nat → Wt), Bw w wx → WM wx (some ⟨g, o, none⟩) 1 f' → wOk T (f' 0) → 1 ≤ c → Calls Tryd.prog 4 #[.slice p q cp, .slice (some ⟨g, o, none⟩) 1 c] wx fun e w' => ∃ px cx, e = .returned (.tuple #[.slice px (sel (metA T 1 f') q).length cx, .nilIface]) ∧ Bw wx w') := fun wx g o c f' hb hwm hok hc => by
            have h0 : WF T 1 f' 0 := .inr ⟨.inr (.inr (.inr (.inr ⟨rfl, HX.out.zero.1⟩))), .inr (.inr ⟨rfl, by omega, fun i hi => by
              have : i = 0 := by omega
              subst this
              exact hok⟩)⟩
            have := HP.out T p cp (some ⟨g, o, none⟩) 1 c f' wx (HT.out.next hb) hwm (by rw [HEQ.out]; exact hq) (by omega) HL.out (by rw [HEQ.out]; exact hcp) hc
            rw [HEQ.out] at this
            refine this.mono ?_
            rintro e w' h
            obtain ⟨px, cx, rfl, -, hb'⟩ := h.im h0 (j := T.q) (fun h => absurd rfl h) (fun _ => rfl)
            rw [HEQ.out, errV_0]
            exact ⟨px, cx, rfl, hb'⟩
          obtain ⟨WA, hWA⟩ : ∃ W, wr.alloc (.cells #[.int .i64 xc, .int .i64 xo, .int .i64 xk, .int .i64 xn, .string xs] 34) = W := ⟨_, rfl⟩
          have hbA : Bw wr WA := by rw [← hWA]; exact Bw.al _ _
          obtain ⟨bw, hbw⟩ : ∃ b, wr.heap.size = b := ⟨_, rfl⟩
          have hblk : WA.heap[bw]? = some (.cells #[.int .i64 xc, .int .i64 xo, .int .i64 xk, .int .i64 xn, .string xs] 34 (0, 0)) := by rw [← hWA, ← hbw]; exact heap_alloc_new _ _
          have HBLK : Hid (WA.heap[bw]? = some (.cells #[.int .i64 xc, .int .i64 xo, .int .i64 xk, .int .i64 xn, .string xs] 34 (0, 0))) := hblk
          have hwm1 : WM WA (some ⟨gw, ow, none⟩) 1 f := by
            rcases HW.out.next (HB7.out.tr hbA) with h | ⟨g', o', e1, hg', h3⟩
            · have := HN.out; omega
            · exact .inr ⟨g', o', e1, hg', fun i hi => h3 i (by have := HN.out; omega)⟩
          have G := HPT.out WA gw ow c2 f (HB7.out.tr hbA) hwm1 (by rw [HAX.out]; exact HW0.out) (by omega)
          have HB8 : Hid (Bw w WA) := HB7.out.tr hbA
          have HBS : Hid (w.heap.size ≤ bw) := by show w.heap.size ≤ bw; rw [← hbw]; exact HB7.out.size
          have HBA : Hid (Bw wr WA) := hbA
          clear hwm1 hbA hblk
          go_wp2_with fail
          refine G.mono ?_
          clear G hWA hbw
          rintro e w8 ⟨px, cx, rfl, hb8⟩
          obtain ⟨lx, hlx⟩ : ∃ lx, (sel (metA T 1 f) q).length = lx := ⟨_, rfl⟩
          have HLX : Hid ((sel (metA T 1 f) q).length = lx) := hlx
          rw [hlx]
          clear hlx
          have hlt8 : bw < WA.heap.size := (Array.getElem?_eq_some_iff.1 HBLK.out).1
          have hblk8 : w8.heap[bw]? = some (.cells #[.int .i64 xc, .int .i64 xo, .int .i64 xk, .int .i64 xn, .string xs] 34 (0, 0)) := by rw [hb8.block bw hlt8]; exact HBLK.out
          have hfz := frz hblk8 1
          have zo : w8.cell? ⟨gw, ow + 1, none⟩ = some (.int .i64 xo) := ((HBA.out.tr hb8).cell (p := ⟨gw, ow + 1, none⟩) HGW.out).trans z1
          have HBK8 : Hid (w8.heap[bw]? = some (.cells #[.int .i64 xc, .int .i64 xo, .int .i64 xk, .int .i64 xn, .string xs] 34 (0, 0))) := hblk8
          have HB9 : Hid (Bw w w8) := HB8.out.tr hb8
          clear hlt8 hblk8 hb8 z0 z1 z2 z3 z4 HBLK HB8
          have ho : xo = 1 ∨ xo = 2 ∨ xo = 3 ∨ xo = 4 ∨ xo = 5 ∨ xo = 6 := by have := HW0.out.2.2; dsimp only at this; omega
          rcases ho with rfl | rfl | rfl | rfl | rfl | rfl
          · have yc : w8.cell? ⟨bw, 1, none⟩ = some (.int .i64 1) := by simp [World.cell?, HBK8.out]
            go_upto_region 33 with fail
            obtain ⟨W9, hW9⟩ : ∃ W, w8.setCell ⟨bw, 1, none⟩ (.int .i64 2) = W := ⟨_, rfl⟩
            have hB9 : W9.heap[bw]? = some (.cells #[.int .i64 xc, .int .i64 2, .int .i64 xk, .int .i64 xn, .string xs] 34 (0, 0)) := by rw [← hW9, blk_set3 HBK8.out]; rfl
            have hbw9 : Bw w W9 := by rw [← hW9]; exact HB9.out.setCell HBS.out _
            have HB10 : Hid (Bw w W9) := hbw9
            have HK9 : Hid (W9.heap[bw]? = some (.cells #[.int .i64 xc, .int .i64 2, .int .i64 xk, .int .i64 xn, .string xs] 34 (0, 0))) := hB9
            have v0 : W9.cell? ⟨bw, 0, none⟩ = some (.int .i64 xc) := by simp [World.cell?, hB9]
            have v1 : W9.cell? ⟨bw, 1, none⟩ = some (.int .i64 2) := by simp [World.cell?, hB9]
            have v2 : W9.cell? ⟨bw, 2, none⟩ = some (.int .i64 xk) := by simp [World.cell?, hB9]
            have v3 : W9.cell? ⟨bw, 3, none⟩ = some (.int .i64 xn) := by simp [World.cell?, hB9]
            have v4 : W9.cell? ⟨bw, 4, none⟩ = some (.string xs) := by simp [World.cell?, hB9]
            rw [hW9]
            clear hW9 hB9 hbw9 yc zo hfz
            obtain ⟨W10, hW10⟩ : ∃ W, W9.alloc (.cells #[.int .i64 xc, .int .i64 2, .int .i64 xk, .int .i64 xn, .string xs] 34) = W := ⟨_, rfl⟩
            have hbb : Bw W9 W10 := by rw [← hW10]; exact Bw.al _ _
            have G := HPT.out W10 W9.heap.size 0 1 (fun _ => ⟨xc, 2, ⟨xk, xn, xs⟩⟩) (HB10.out.tr hbb) (by
              refine .inr ⟨W9.heap.size, 0, rfl, by rw [← hW10]; simp, fun i hi => ?_⟩
              have : i = 0 := by omega
              subst this
              rw [← hW10]
              simp) ⟨HW0.out.1, HW0.out.2.1, by dsimp only; omega, by dsimp only; omega⟩ (by omega)
            have HBB : Hid (Bw W9 W10) := hbb
            clear hbb
            go_wp2_with fail
            refine G.mono ?_
            clear G
            rintro e w11 ⟨py, cy, rfl, hb11⟩
            obtain ⟨ly, hly⟩ : ∃ ly, (sel (metA T 1 (fun _ => ⟨xc, 2, ⟨xk, xn, xs⟩⟩)) q).length = ly := ⟨_, rfl⟩
            have HSUM : Hid (lx + ly + cntB (badB T ⟨xc, 1, ⟨xk, xn, xs⟩⟩) q = q) := by
              show lx + ly + cntB (badB T ⟨xc, 1, ⟨xk, xn, xs⟩⟩) q = q
              rw [← HLX.out, ← hly, ← HAX.out]
              exact parts_once (by rw [HAX.out]; dsimp only; omega) (by rw [HAX.out]; dsimp only; omega) (by rw [HAX.out]) (by rw [HAX.out]) (by rw [HAX.out]; rfl) q
            rw [hly]
            have HB11 : Hid (Bw w w11) := (HB10.out.tr HBB.out).tr hb11
            have hk11 : w11.heap[bw]? = some (.cells #[.int .i64 xc, .int .i64 2, .int .i64 xk, .int .i64 xn, .string xs] 34 (0, 0)) := by
              rw [(HBB.out.tr hb11).block bw (Array.getElem?_eq_some_iff.1 HK9.out).1]
              exact HK9.out
            have HK11 : Hid (w11.heap[bw]? = some (.cells #[.int .i64 xc, .int .i64 2, .int .i64 xk, .int .i64 xn, .string xs] 34 (0, 0))) := hk11
            have HQ60 : Hid (q ≤ 60) := by show q ≤ 60; rw [← HEQ.out]; exact HX.out.zero.1.few
            clear hly hb11 hk11 HK9 HBB HB10 HPT hW10 v0 v1 v2 v3 v4 HLX HBK8 HB9
            have mixed := mixed
            go_wp2_with fail
            go_loopw [18, 19] (fun s18 s19 wr => ∃ j c : Nat, s19 = .int .i64 j ∧ s18 = .int .i64 c ∧ j ≤ q ∧ Hid (cntB (badB T ⟨xc, 1, ⟨xk, xn, xs⟩⟩) j = c) ∧ Hid (Bw w11 wr)) (fun _ s19 _ => q - (intOf s19).toNat)
            case atStart => exact ⟨0, 0, rfl, rfl, Nat.zero_le _, rfl, Below.refl _ _⟩
            case round =>
              obtain ⟨j, c, rfl, rfl, hj, HC, HBl⟩ := hrel
              have hcj : c ≤ j := by rw [← HC.out]; exact cntB_le _ _
              have hq60 : q ≤ 60 := HQ60.out
              by_cases hjl : j < q
              · have hjl' : (j : Int) < (q : Int) := by omega
                have hj0 : (0 : Int) ≤ (j : Int) := by omega
                have hjq : j < T.q := by rw [HEQ.out]; exact hjl
                have hcol := HX.out.zero.1.col HW0.out.1 hjq
                dsimp only at hcol
                obtain ⟨u, hu⟩ : ∃ u : Nat, xc = (u : Int) := ⟨xc.toNat, by omega⟩
                rcases HT.out.next (HB11.out.tr HBl.out) with h | ⟨gt, ot, rfl, hgt, h3⟩
                · omega
                obtain ⟨zz, hvm⟩ := h3 j hjq
                rcases hvm with h | ⟨gr, orr, hpr, hgr, h4⟩
                · omega
                have zk := (h4 u (by omega)).1
                have x0 : wr.cell? ⟨bw, 0, none⟩ = some (.int .i64 (u : Int)) := by
                  rw [HBl.out.cell (p := ⟨bw, 0, none⟩) (Array.getElem?_eq_some_iff.1 HK11.out).1, ← hu]
                  simp [World.cell?, HK11.out]
                have x2 : wr.cell? ⟨bw, 2, none⟩ = some (.int .i64 xk) := by
                  rw [HBl.out.cell (p := ⟨bw, 2, none⟩) (Array.getElem?_eq_some_iff.1 HK11.out).1]
                  simp [World.cell?, HK11.out]
                obtain ⟨lj, hl⟩ : ∃ x, T.L j = x := ⟨_, rfl⟩
                obtain ⟨cj, hc⟩ : ∃ x, T.C j = x := ⟨_, rfl⟩
                obtain ⟨kk, hkk⟩ : ∃ x, (T.v j u).k = x := ⟨_, rfl⟩
                rw [hpr, hl, hc] at zz
                rw [hkk] at zk
                rw [hl] at hcol
                have hu0 : (0 : Int) ≤ (u : Int) := by omega
                have hul : (u : Int) < (lj : Int) := by omega
                have HBAD : Hid (badB T ⟨xc, 1, ⟨xk, xn, xs⟩⟩ j = (kk == 4 || xk == 4)) := by
                  show badB T ⟨xc, 1, ⟨xk, xn, xs⟩⟩ j = (kk == 4 || xk == 4)
                  unfold badB
                  dsimp only
                  rw [show xc.toNat = u by omega, hkk]
                have zzq : ∀ m, (wr.drewN m).cell? ⟨gt, ot + j, none⟩ = some (.slice (some ⟨gr, orr, none⟩) lj cj) := fun m => zz
                have zkq : ∀ m, (wr.drewN m).cell? ⟨gr, orr + u * 3, none⟩ = some (.int .i64 kk) := fun m => zk
                have x0q : ∀ m, (wr.drewN m).cell? ⟨bw, 0, none⟩ = some (.int .i64 (u : Int)) := fun m => x0
                have x2q : ∀ m, (wr.drewN m).cell? ⟨bw, 2, none⟩ = some (.int .i64 xk) := fun m => x2
                clear zz zk x0 x2 h3 h4 hgt hgr hpr hl hc hkk hcol hjq hu
                have hyes : (kk == 4 || xk == 4) = true → cntB (badB T ⟨xc, 1, ⟨xk, xn, xs⟩⟩) (j + 1) = c + 1 := fun h => by rw [cntB, if_pos (by rw [HBAD.out]; exact h), HC.out]
                have hno : (kk == 4 || xk == 4) = false → cntB (badB T ⟨xc, 1, ⟨xk, xn, xs⟩⟩) (j + 1) = c := fun h => by rw [cntB, if_neg (by rw [HBAD.out, h]; simp), HC.out]
                have HYES : Hid ((kk == 4 || xk == 4) = true → cntB (badB T ⟨xc, 1, ⟨xk, xn, xs⟩⟩) (j + 1) = c + 1) := hyes
                have HNO : Hid ((kk == 4 || xk == 4) = false → cntB (badB T ⟨xc, 1, ⟨xk, xn, xs⟩⟩) (j + 1) = c) := hno
                clear hyes hno
                by_cases hk4 : (kk == 4) = true
                · go_wp2_with fail
                  go_quiet (fail)
                  go_wp2_with fail
                  exact ⟨⟨j + 1, c + 1, by simp, by simp, hjl, HYES.out (by simp [hk4]), HBl.out.tr (Bw.drewN _ _)⟩, by simp [intOf]; omega⟩
                · have hk4 : (kk == 4) = false := by simpa using hk4
                  by_cases hx4 : (xk == 4) = true
                  · go_wp2_with fail
                    go_quiet (fail)
                    go_wp2_with fail
                    exact ⟨⟨j + 1, c + 1, by simp, by simp, hjl, HYES.out (by simp [hx4]), HBl.out.tr (Bw.drewN _ _)⟩, by simp [intOf]; omega⟩
                  · have hx4 : (xk == 4) = false := by simpa using hx4
                    go_wp2_with fail
                    go_quiet (fail)
                    go_wp2_with fail
                    exact ⟨⟨j + 1, c, by simp, rfl, hjl, HNO.out (by simp [hk4, hx4]), HBl.out.tr (Bw.drewN _ _)⟩, by simp [intOf]; omega⟩
              · have hjl' : ¬ (j : Int) < (q : Int) := by omega
                have ej : j = q := by omega
                have hsum : lx + ly + c = q := by rw [← HC.out, ej]; exact HSUM.out
                have hs1 : ((lx : Int) + (ly : Int) + (c : Int) == (q : Int)) = true := by simp; omega
                have HBE : Hid (Bw w wr) := HB11.out.tr HBl.out
                go_wp2_with fail
                go_ret
                exact ⟨by simp, HBE.out⟩
          · have yc : w8.cell? ⟨bw, 1, none⟩ = some (.int .i64 2) := by simp [World.cell?, HBK8.out]
            go_upto_region 33 with fail
            obtain ⟨W9, hW9⟩ : ∃ W, w8.setCell ⟨bw, 1, none⟩ (.int .i64 1) = W := ⟨_, rfl⟩
            have hB9 : W9.heap[bw]? = some (.cells #[.int .i64 xc, .int .i64 1, .int .i64 xk, .int .i64 xn, .string xs] 34 (0, 0)) := by rw [← hW9, blk_set3 HBK8.out]; rfl
            have hbw9 : Bw w W9 := by rw [← hW9]; exact HB9.out.setCell HBS.out _
            have HB10 : Hid (Bw w W9) := hbw9
            have HK9 : Hid (W9.heap[bw]? = some (.cells #[.int .i64 xc, .int .i64 1, .int .i64 xk, .int .i64 xn, .string xs] 34 (0, 0))) := hB9
            have v0 : W9.cell? ⟨bw, 0, none⟩ = some (.int .i64 xc) := by simp [World.cell?, hB9]
            have v1 : W9.cell? ⟨bw, 1, none⟩ = some (.int .i64 1) := by simp [World.cell?, hB9]
            have v2 : W9.cell? ⟨bw, 2, none⟩ = some (.int .i64 xk) := by simp [World.cell?, hB9]
            have v3 : W9.cell? ⟨bw, 3, none⟩ = some (.int .i64 xn) := by simp [World.cell?, hB9]
            have v4 : W9.cell? ⟨bw, 4, none⟩ = some (.string xs) := by simp [World.cell?, hB9]
            rw [hW9]
            clear hW9 hB9 hbw9 yc zo hfz
            obtain ⟨W10, hW10⟩ : ∃ W, W9.alloc (.cells #[.int .i64 xc, .int .i64 1, .int .i64 xk, .int .i64 xn, .string xs] 34) = W := ⟨_, rfl⟩
            have hbb : Bw W9 W10 := by rw [← hW10]; exact Bw.al _ _
            have G := HPT.out W10 W9.heap.size 0 1 (fun _ => ⟨xc, 1, ⟨xk, xn, xs⟩⟩) (HB10.out.tr hbb) (by
              refine .inr ⟨W9.heap.size, 0, rfl, by rw [← hW10]; simp, fun i hi => ?_⟩
              have : i = 0 := by omega
              subst this
              rw [← hW10]
              simp) ⟨HW0.out.1, HW0.out.2.1, by dsimp only; omega, by dsimp only; omega⟩ (by omega)
            have HBB : Hid (Bw W9 W10) := hbb
            clear hbb
            go_wp2_with fail
            refine G.mono ?_
            clear G
            rintro e w11 ⟨py, cy, rfl, hb11⟩
            obtain ⟨ly, hly⟩ : ∃ ly, (sel (metA T 1 (fun _ => ⟨xc, 1, ⟨xk, xn, xs⟩⟩)) q).length = ly := ⟨_, rfl⟩
            have HSUM : Hid (lx + ly + cntB (badB T ⟨xc, 2, ⟨xk, xn, xs⟩⟩) q = q) := by
              show lx + ly + cntB (badB T ⟨xc, 2, ⟨xk, xn, xs⟩⟩) q = q
              rw [← HLX.out, ← hly, ← HAX.out]
              exact parts_once (by rw [HAX.out]; dsimp only; omega) (by rw [HAX.out]; dsimp only; omega) (by rw [HAX.out]) (by rw [HAX.out]) (by rw [HAX.out]; rfl) q
            rw [hly]
            have HB11 : Hid (Bw w w11) := (HB10.out.tr HBB.out).tr hb11
            have hk11 : w11.heap[bw]? = some (.cells #[.int .i64 xc, .int .i64 1, .int .i64 xk, .int .i64 xn, .string xs] 34 (0, 0)) := by
              rw [(HBB.out.tr hb11).block bw (Array.getElem?_eq_some_iff.1 HK9.out).1]
              exact HK9.out
            have HK11 : Hid (w11.heap[bw]? = some (.cells #[.int .i64 xc, .int .i64 1, .int .i64 xk, .int .i64 xn, .string xs] 34 (0, 0))) := hk11
            have HQ60 : Hid (q ≤ 60) := by show q ≤ 60; rw [← HEQ.out]; exact HX.out.zero.1.few
            clear hly hb11 hk11 HK9 HBB HB10 HPT hW10 v0 v1 v2 v3 v4 HLX HBK8 HB9
            have mixed := mixed
            go_wp2_with fail
            go_loopw [18, 19] (fun s18 s19 wr => ∃ j c : Nat, s19 = .int .i64 j ∧ s18 = .int .i64 c ∧ j ≤ q ∧ Hid (cntB (badB T ⟨xc, 2, ⟨xk, xn, xs⟩⟩) j = c) ∧ Hid (Bw w11 wr)) (fun _ s19 _ => q - (intOf s19).toNat)
            case atStart => exact ⟨0, 0, rfl, rfl, Nat.zero_le _, rfl, Below.refl _ _⟩
            case round =>
              obtain ⟨j, c, rfl, rfl, hj, HC, HBl⟩ := hrel
              have hcj : c ≤ j := by rw [← HC.out]; exact cntB_le _ _
              have hq60 : q ≤ 60 := HQ60.out
              by_cases hjl : j < q
              · have hjl' : (j : Int) < (q : Int) := by omega
                have hj0 : (0 : Int) ≤ (j : Int) := by omega
                have hjq : j < T.q := by rw [HEQ.out]; exact hjl
                have hcol := HX.out.zero.1.col HW0.out.1 hjq
                dsimp only at hcol
                obtain ⟨u, hu⟩ : ∃ u : Nat, xc = (u : Int) := ⟨xc.toNat, by omega⟩
                rcases HT.out.next (HB11.out.tr HBl.out) with h | ⟨gt, ot, rfl, hgt, h3⟩
                · omega
                obtain ⟨zz, hvm⟩ := h3 j hjq
                rcases hvm with h | ⟨gr, orr, hpr, hgr, h4⟩
                · omega
                have zk := (h4 u (by omega)).1
                have x0 : wr.cell? ⟨bw, 0, none⟩ = some (.int .i64 (u : Int)) := by
                  rw [HBl.out.cell (p := ⟨bw, 0, none⟩) (Array.getElem?_eq_some_iff.1 HK11.out).1, ← hu]
                  simp [World.cell?, HK11.out]
                have x2 : wr.cell? ⟨bw, 2, none⟩ = some (.int .i64 xk) := by
                  rw [HBl.out.cell (p := ⟨bw, 2, none⟩) (Array.getElem?_eq_some_iff.1 HK11.out).1]
                  simp [World.cell?, HK11.out]
                obtain ⟨lj, hl⟩ : ∃ x, T.L j = x := ⟨_, rfl⟩
                obtain ⟨cj, hc⟩ : ∃ x, T.C j = x := ⟨_, rfl⟩
                obtain ⟨kk, hkk⟩ : ∃ x, (T.v j u).k = x := ⟨_, rfl⟩
                rw [hpr, hl, hc] at zz
                rw [hkk] at zk
                rw [hl] at hcol
                have hu0 : (0 : Int) ≤ (u : Int) := by omega
                have hul : (u : Int) < (lj : Int) := by omega
                have HBAD : Hid (badB T ⟨xc, 2, ⟨xk, xn, xs⟩⟩ j = (kk == 4 || xk == 4)) := by
                  show badB T ⟨xc, 2, ⟨xk, xn, xs⟩⟩ j = (kk == 4 || xk == 4)
                  unfold badB
                  dsimp only
                  rw [show xc.toNat = u by omega, hkk]
                have zzq : ∀ m, (wr.drewN m).cell? ⟨gt, ot + j, none⟩ = some (.slice (some ⟨gr, orr, none⟩) lj cj) := fun m => zz
                have zkq : ∀ m, (wr.drewN m).cell? ⟨gr, orr + u * 3, none⟩ = some (.int .i64 kk) := fun m => zk
                have x0q : ∀ m, (wr.drewN m).cell? ⟨bw, 0, none⟩ = some (.int .i64 (u : Int)) := fun m => x0
                have x2q : ∀ m, (wr.drewN m).cell? ⟨bw, 2, none⟩ = some (.int .i64 xk) := fun m => x2
                clear zz zk x0 x2 h3 h4 hgt hgr hpr hl hc hkk hcol hjq hu
                have hyes : (kk == 4 || xk == 4) = true → cntB (badB T ⟨xc, 2, ⟨xk, xn, xs⟩⟩) (j + 1) = c + 1 := fun h => by rw [cntB, if_pos (by rw [HBAD.out]; exact h), HC.out]
                have hno : (kk == 4 || xk == 4) = false → cntB (badB T ⟨xc, 2, ⟨xk, xn, xs⟩⟩) (j + 1) = c := fun h => by rw [cntB, if_neg (by rw [HBAD.out, h]; simp), HC.out]
                have HYES : Hid ((kk == 4 || xk == 4) = true → cntB (badB T ⟨xc, 2, ⟨xk, xn, xs⟩⟩) (j + 1) = c + 1) := hyes
                have HNO : Hid ((kk == 4 || xk == 4) = false → cntB (badB T ⟨xc, 2, ⟨xk, xn, xs⟩⟩) (j + 1) = c) := hno
                clear hyes hno
                by_cases hk4 : (kk == 4) = true
                · go_wp2_with fail
                  go_quiet (fail)
                  go_wp2_with fail
                  exact ⟨⟨j + 1, c + 1, by simp, by simp, hjl, HYES.out (by simp [hk4]), HBl.out.tr (Bw.drewN _ _)⟩, by simp [intOf]; omega⟩
                · have hk4 : (kk == 4) = false := by simpa using hk4
                  by_cases hx4 : (xk == 4) = true
                  · go_wp2_with fail
                    go_quiet (fail)
                    go_wp2_with fail
                    exact ⟨⟨j + 1, c + 1, by simp, by simp, hjl, HYES.out (by simp [hx4]), HBl.out.tr (Bw.drewN _ _)⟩, by simp [intOf]; omega⟩
                  · have hx4 : (xk == 4) = false := by simpa using hx4
                    go_wp2_with fail
                    go_quiet (fail)
                    go_wp2_with fail
                    exact ⟨⟨j + 1, c, by simp, rfl, hjl, HNO.out (by simp [hk4, hx4]), HBl.out.tr (Bw.drewN _ _)⟩, by simp [intOf]; omega⟩
              · have hjl' : ¬ (j : Int) < (q : Int) := by omega
                have ej : j = q := by omega
                have hsum : lx + ly + c = q := by rw [← HC.out, ej]; exact HSUM.out
                have hs1 : ((lx : Int) + (ly : Int) + (c : Int) == (q : Int)) = true := by simp; omega
                have HBE : Hid (Bw w wr) := HB11.out.tr HBl.out
                go_wp2_with fail
                go_ret
                exact ⟨by simp, HBE.out⟩
          · have yc : w8.cell? ⟨bw, 1, none⟩ = some (.int .i64 3) := by simp [World.cell?, HBK8.out]
            go_upto_region 33 with fail
            obtain ⟨W9, hW9⟩ : ∃ W, w8.setCell ⟨bw, 1, none⟩ (.int .i64 6) = W := ⟨_, rfl⟩
            have hB9 : W9.heap[bw]? = some (.cells #[.int .i64 xc, .int .i64 6, .int .i64 xk, .int .i64 xn, .string xs] 34 (0, 0)) := by rw [← hW9, blk_set3 HBK8.out]; rfl
            have hbw9 : Bw w W9 := by rw [← hW9]; exact HB9.out.setCell HBS.out _
            have HB10 : Hid (Bw w W9) := hbw9
            have HK9 : Hid (W9.heap[bw]? = some (.cells #[.int .i64 xc, .int .i64 6, .int .i64 xk, .int .i64 xn, .string xs] 34 (0, 0))) := hB9
            have v0 : W9.cell? ⟨bw, 0, none⟩ = some (.int .i64 xc) := by simp [World.cell?, hB9]
            have v1 : W9.cell? ⟨bw, 1, none⟩ = some (.int .i64 6) := by simp [World.cell?, hB9]
            have v2 : W9.cell? ⟨bw, 2, none⟩ = some (.int .i64 xk) := by simp [World.cell?, hB9]
            have v3 : W9.cell? ⟨bw, 3, none⟩ = some (.int .i64 xn) := by simp [World.cell?, hB9]
            have v4 : W9.cell? ⟨bw, 4, none⟩ = some (.string xs) := by simp [World.cell?, hB9]
            rw [hW9]
            clear hW9 hB9 hbw9 yc zo hfz
            obtain ⟨W10, hW10⟩ : ∃ W, W9.alloc (.cells #[.int .i64 xc, .int .i64 6, .int .i64 xk, .int .i64 xn, .string xs] 34) = W := ⟨_, rfl⟩
            have hbb : Bw W9 W10 := by rw [← hW10]; exact Bw.al _ _
            have G := HPT.out W10 W9.heap.size 0 1 (fun _ => ⟨xc, 6, ⟨xk, xn, xs⟩⟩) (HB10.out.tr hbb) (by
              refine .inr ⟨W9.heap.size, 0, rfl, by rw [← hW10]; simp, fun i hi => ?_⟩
              have : i = 0 := by omega
              subst this
              rw [← hW10]
              simp) ⟨HW0.out.1, HW0.out.2.1, by dsimp only; omega, by dsimp only; omega⟩ (by omega)
            have HBB : Hid (Bw W9 W10) := hbb
            clear hbb
            go_wp2_with fail
            refine G.mono ?_
            clear G
            rintro e w11 ⟨py, cy, rfl, hb11⟩
            obtain ⟨ly, hly⟩ : ∃ ly, (sel (metA T 1 (fun _ => ⟨xc, 6, ⟨xk, xn, xs⟩⟩)) q).length = ly := ⟨_, rfl⟩
            have HSUM : Hid (lx + ly + cntB (badB T ⟨xc, 3, ⟨xk, xn, xs⟩⟩) q = q) := by
              show lx + ly + cntB (badB T ⟨xc, 3, ⟨xk, xn, xs⟩⟩) q = q
              rw [← HLX.out, ← hly, ← HAX.out]
              exact parts_once (by rw [HAX.out]; dsimp only; omega) (by rw [HAX.out]; dsimp only; omega) (by rw [HAX.out]) (by rw [HAX.out]) (by rw [HAX.out]; rfl) q
            rw [hly]
            have HB11 : Hid (Bw w w11) := (HB10.out.tr HBB.out).tr hb11
            have hk11 : w11.heap[bw]? = some (.cells #[.int .i64 xc, .int .i64 6, .int .i64 xk, .int .i64 xn, .string xs] 34 (0, 0)) := by
              rw [(HBB.out.tr hb11).block bw (Array.getElem?_eq_some_iff.1 HK9.out).1]
              exact HK9.out
            have HK11 : Hid (w11.heap[bw]? = some (.cells #[.int .i64 xc, .int .i64 6, .int .i64 xk, .int .i64 xn, .string xs] 34 (0, 0))) := hk11
            have HQ60 : Hid (q ≤ 60) := by show q ≤ 60; rw [← HEQ.out]; exact HX.out.zero.1.few
            clear hly hb11 hk11 HK9 HBB HB10 HPT hW10 v0 v1 v2 v3 v4 HLX HBK8 HB9
            have mixed := mixed
            go_wp2_with fail
            go_loopw [18, 19] (fun s18 s19 wr => ∃ j c : Nat, s19 = .int .i64 j ∧ s18 = .int .i64 c ∧ j ≤ q ∧ Hid (cntB (badB T ⟨xc, 3, ⟨xk, xn, xs⟩⟩) j = c) ∧ Hid (Bw w11 wr)) (fun _ s19 _ => q - (intOf s19).toNat)
            case atStart => exact ⟨0, 0, rfl, rfl, Nat.zero_le _, rfl, Below.refl _ _⟩
            case round =>
              obtain ⟨j, c, rfl, rfl, hj, HC, HBl⟩ := hrel
              have hcj : c ≤ j := by rw [← HC.out]; exact cntB_le _ _
              have hq60 : q ≤ 60 := HQ60.out
              by_cases hjl : j < q
              · have hjl' : (j : Int) < (q : Int) := by omega
                have hj0 : (0 : Int) ≤ (j : Int) := by omega
                have hjq : j < T.q := by rw [HEQ.out]; exact hjl
                have hcol := HX.out.zero.1.col HW0.out.1 hjq
                dsimp only at hcol
                obtain ⟨u, hu⟩ : ∃ u : Nat, xc = (u : Int) := ⟨xc.toNat, by omega⟩
                rcases HT.out.next (HB11.out.tr HBl.out) with h | ⟨gt, ot, rfl, hgt, h3⟩
                · omega
                obtain ⟨zz, hvm⟩ := h3 j hjq
                rcases hvm with h | ⟨gr, orr, hpr, hgr, h4⟩
                · omega
                have zk := (h4 u (by omega)).1
                have x0 : wr.cell? ⟨bw, 0, none⟩ = some (.int .i64 (u : Int)) := by
                  rw [HBl.out.cell (p := ⟨bw, 0, none⟩) (Array.getElem?_eq_some_iff.1 HK11.out).1, ← hu]
                  simp [World.cell?, HK11.out]
                have x2 : wr.cell? ⟨bw, 2, none⟩ = some (.int .i64 xk) := by
                  rw [HBl.out.cell (p := ⟨bw, 2, none⟩) (Array.getElem?_eq_some_iff.1 HK11.out).1]
                  simp [World.cell?, HK11.out]
                obtain ⟨lj, hl⟩ : ∃ x, T.L j = x := ⟨_, rfl⟩
                obtain ⟨cj, hc⟩ : ∃ x, T.C j = x := ⟨_, rfl⟩
                obtain ⟨kk, hkk⟩ : ∃ x, (T.v j u).k = x := ⟨_, rfl⟩
                rw [hpr, hl, hc] at zz
                rw [hkk] at zk
                rw [hl] at hcol
                have hu0 : (0 : Int) ≤ (u : Int) := by omega
                have hul : (u : Int) < (lj : Int) := by omega
                have HBAD : Hid (badB T ⟨xc, 3, ⟨xk, xn, xs⟩⟩ j = (kk == 4 || xk == 4)) := by
                  show badB T ⟨xc, 3, ⟨xk, xn, xs⟩⟩ j = (kk == 4 || xk == 4)
                  unfold badB
                  dsimp only
                  rw [show xc.toNat = u by omega, hkk]
                have zzq : ∀ m, (wr.drewN m).cell? ⟨gt, ot + j, none⟩ = some (.slice (some ⟨gr, orr, none⟩) lj cj) := fun m => zz
                have zkq : ∀ m, (wr.drewN m).cell? ⟨gr, orr + u * 3, none⟩ = some (.int .i64 kk) := fun m => zk
                have x0q : ∀ m, (wr.drewN m).cell? ⟨bw, 0, none⟩ = some (.int .i64 (u : Int)) := fun m => x0
                have x2q : ∀ m, (wr.drewN m).cell? ⟨bw, 2, none⟩ = some (.int .i64 xk) := fun m => x2
                clear zz zk x0 x2 h3 h4 hgt hgr hpr hl hc hkk hcol hjq hu
                have hyes : (kk == 4 || xk == 4) = true → cntB (badB T ⟨xc, 3, ⟨xk, xn, xs⟩⟩) (j + 1) = c + 1 := fun h => by rw [cntB, if_pos (by rw [HBAD.out]; exact h), HC.out]
                have hno : (kk == 4 || xk == 4) = false → cntB (badB T ⟨xc, 3, ⟨xk, xn, xs⟩⟩) (j + 1) = c := fun h => by rw [cntB, if_neg (by rw [HBAD.out, h]; simp), HC.out]
                have HYES : Hid ((kk == 4 || xk == 4) = true → cntB (badB T ⟨xc, 3, ⟨xk, xn, xs⟩⟩) (j + 1) = c + 1) := hyes
                have HNO : Hid ((kk == 4 || xk == 4) = false → cntB (badB T ⟨xc, 3, ⟨xk, xn, xs⟩⟩) (j + 1) = c) := hno
                clear hyes hno
                by_cases hk4 : (kk == 4) = true
                · go_wp2_with fail
                  go_quiet (fail)
                  go_wp2_with fail
                  exact ⟨⟨j + 1, c + 1, by simp, by simp, hjl, HYES.out (by simp [hk4]), HBl.out.tr (Bw.drewN _ _)⟩, by simp [intOf]; omega⟩
                · have hk4 : (kk == 4) = false := by simpa using hk4
                  by_cases hx4 : (xk == 4) = true
                  · go_wp2_with fail
                    go_quiet (fail)
                    go_wp2_with fail
                    exact ⟨⟨j + 1, c + 1, by simp, by simp, hjl, HYES.out (by simp [hx4]), HBl.out.tr (Bw.drewN _ _)⟩, by simp [intOf]; omega⟩
                  · have hx4 : (xk == 4) = false := by simpa using hx4
                    go_wp2_with fail
                    go_quiet (fail)
                    go_wp2_with fail
                    exact ⟨⟨j + 1, c, by simp, rfl, hjl, HNO.out (by simp [hk4, hx4]), HBl.out.tr (Bw.drewN _ _)⟩, by simp [intOf]; omega⟩
              · have hjl' : ¬ (j : Int) < (q : Int) := by omega
                have ej : j = q := by omega
                have hsum : lx + ly + c = q := by rw [← HC.out, ej]; exact HSUM.out
                have hs1 : ((lx : Int) + (ly : Int) + (c : Int) == (q : Int)) = true := by simp; omega
                have HBE : Hid (Bw w wr) := HB11.out.tr HBl.out
                go_wp2_with fail
                go_ret
                exact ⟨by simp, HBE.out⟩
          · have yc : w8.cell? ⟨bw, 1, none⟩ = some (.int .i64 4) := by simp [World.cell?, HBK8.out]
            go_upto_region 33 with fail
            obtain ⟨W9, hW9⟩ : ∃ W, w8.setCell ⟨bw, 1, none⟩ (.int .i64 5) = W := ⟨_, rfl⟩
            have hB9 : W9.heap[bw]? = some (.cells #[.int .i64 xc, .int .i64 5, .int .i64 xk, .int .i64 xn, .string xs] 34 (0, 0)) := by rw [← hW9, blk_set3 HBK8.out]; rfl
            have hbw9 : Bw w W9 := by rw [← hW9]; exact HB9.out.setCell HBS.out _
            have HB10 : Hid (Bw w W9) := hbw9
            have HK9 : Hid (W9.heap[bw]? = some (.cells #[.int .i64 xc, .int .i64 5, .int .i64 xk, .int .i64 xn, .string xs] 34 (0, 0))) := hB9
            have v0 : W9.cell? ⟨bw, 0, none⟩ = some (.int .i64 xc) := by simp [World.cell?, hB9]
            have v1 : W9.cell? ⟨bw, 1, none⟩ = some (.int .i64 5) := by simp [World.cell?, hB9]
            have v2 : W9.cell? ⟨bw, 2, none⟩ = some (.int .i64 xk) := by simp [World.cell?, hB9]
            have v3 : W9.cell? ⟨bw, 3, none⟩ = some (.int .i64 xn) := by simp [World.cell?, hB9]
            have v4 : W9.cell? ⟨bw, 4, none⟩ = some (.string xs) := by simp [World.cell?, hB9]
            rw [hW9]
            clear hW9 hB9 hbw9 yc zo hfz
            obtain ⟨W10, hW10⟩ : ∃ W, W9.alloc (.cells #[.int .i64 xc, .int .i64 5, .int .i64 xk, .int .i64 xn, .string xs] 34) = W := ⟨_, rfl⟩
            have hbb : Bw W9 W10 := by rw [← hW10]; exact Bw.al _ _
            have G := HPT.out W10 W9.heap.size 0 1 (fun _ => ⟨xc, 5, ⟨xk, xn, xs⟩⟩) (HB10.out.tr hbb) (by
              refine .inr ⟨W9.heap.size, 0, rfl, by rw [← hW10]; simp, fun i hi => ?_⟩
              have : i = 0 := by omega
              subst this
              rw [← hW10]
              simp) ⟨HW0.out.1, HW0.out.2.1, by dsimp only; omega, by dsimp only; omega⟩ (by omega)
            have HBB : Hid (Bw W9 W10) := hbb
            clear hbb
            go_wp2_with fail
            refine G.mono ?_
            clear G
            rintro e w11 ⟨py, cy, rfl, hb11⟩
            obtain ⟨ly, hly⟩ : ∃ ly, (sel (metA T 1 (fun _ => ⟨xc, 5, ⟨xk, xn, xs⟩⟩)) q).length = ly := ⟨_, rfl⟩
            have HSUM : Hid (lx + ly + cntB (badB T ⟨xc, 4, ⟨xk, xn, xs⟩⟩) q = q) := by
              show lx + ly + cntB (badB T ⟨xc, 4, ⟨xk, xn, xs⟩⟩) q = q
              rw [← HLX.out, ← hly, ← HAX.out]
              exact parts_once (by rw [HAX.out]; dsimp only; omega) (by rw [HAX.out]; dsimp only; omega) (by rw [HAX.out]) (by rw [HAX.out]) (by rw [HAX.out]; rfl) q
            rw [hly]
            have HB11 : Hid (Bw w w11) := (HB10.out.tr HBB.out).tr hb11
            have hk11 : w11.heap[bw]? = some (.cells #[.int .i64 xc, .int .i64 5, .int .i64 xk, .int .i64 xn, .string xs] 34 (0, 0)) := by
              rw [(HBB.out.tr hb11).block bw (Array.getElem?_eq_some_iff.1 HK9.out).1]
              exact HK9.out
            have HK11 : Hid (w11.heap[bw]? = some (.cells #[.int .i64 xc, .int .i64 5, .int .i64 xk, .int .i64 xn, .string xs] 34 (0, 0))) := hk11
            have HQ60 : Hid (q ≤ 60) := by show q ≤ 60; rw [← HEQ.out]; exact HX.out.zero.1.few
            clear hly hb11 hk11 HK9 HBB HB10 HPT hW10 v0 v1 v2 v3 v4 HLX HBK8 HB9
            have mixed := mixed
            go_wp2_with fail
            go_loopw [18, 19] (fun s18 s19 wr => ∃ j c : Nat, s19 = .int .i64 j ∧ s18 = .int .i64 c ∧ j ≤ q ∧ Hid (cntB (badB T ⟨xc, 4, ⟨xk, xn, xs⟩⟩) j = c) ∧ Hid (Bw w11 wr)) (fun _ s19 _ => q - (intOf s19).toNat)
            case atStart => exact ⟨0, 0, rfl, rfl, Nat.zero_le _, rfl, Below.refl _ _⟩
            case round =>
              obtain ⟨j, c, rfl, rfl, hj, HC, HBl⟩ := hrel
              have hcj : c ≤ j := by rw [← HC.out]; exact cntB_le _ _
              have hq60 : q ≤ 60 := HQ60.out
              by_cases hjl : j < q
              · have hjl' : (j : Int) < (q : Int) := by omega
                have hj0 : (0 : Int) ≤ (j : Int) := by omega
                have hjq : j < T.q := by rw [HEQ.out]; exact hjl
                have hcol := HX.out.zero.1.col HW0.out.1 hjq
                dsimp only at hcol
                obtain ⟨u, hu⟩ : ∃ u : Nat, xc = (u : Int) := ⟨xc.toNat, by omega⟩
                rcases HT.out.next (HB11.out.tr HBl.out) with h | ⟨gt, ot, rfl, hgt, h3⟩
                · omega
                obtain ⟨zz, hvm⟩ := h3 j hjq
                rcases hvm with h | ⟨gr, orr, hpr, hgr, h4⟩
                · omega
                have zk := (h4 u (by omega)).1
                have x0 : wr.cell? ⟨bw, 0, none⟩ = some (.int .i64 (u : Int)) := by
                  rw [HBl.out.cell (p := ⟨bw, 0, none⟩) (Array.getElem?_eq_some_iff.1 HK11.out).1, ← hu]
                  simp [World.cell?, HK11.out]
                have x2 : wr.cell? ⟨bw, 2, none⟩ = some (.int .i64 xk) := by
                  rw [HBl.out.cell (p := ⟨bw, 2, none⟩) (Array.getElem?_eq_some_iff.1 HK11.out).1]
                  simp [World.cell?, HK11.out]
                obtain ⟨lj, hl⟩ : ∃ x, T.L j = x := ⟨_, rfl⟩
                obtain ⟨cj, hc⟩ : ∃ x, T.C j = x := ⟨_, rfl⟩
                obtain ⟨kk, hkk⟩ : ∃ x, (T.v j u).k = x := ⟨_, rfl⟩
                rw [hpr, hl, hc] at zz
                rw [hkk] at zk
                rw [hl] at hcol
                have hu0 : (0 : Int) ≤ (u : Int) := by omega
                have hul : (u : Int) < (lj : Int) := by omega
                have HBAD : Hid (badB T ⟨xc, 4, ⟨xk, xn, xs⟩⟩ j = (kk == 4 || xk == 4)) := by
                  show badB T ⟨xc, 4, ⟨xk, xn, xs⟩⟩ j = (kk == 4 || xk == 4)
                  unfold badB
                  dsimp only
                  rw [show xc.toNat = u by omega, hkk]
                have zzq : ∀ m, (wr.drewN m).cell? ⟨gt, ot + j, none⟩ = some (.slice (some ⟨gr, orr, none⟩) lj cj) := fun m => zz
                have zkq : ∀ m, (wr.drewN m).cell? ⟨gr, orr + u * 3, none⟩ = some (.int .i64 kk) := fun m => zk
                have x0q : ∀ m, (wr.drewN m).cell? ⟨bw, 0, none⟩ = some (.int .i64 (u : Int)) := fun m => x0
                have x2q : ∀ m, (wr.drewN m).cell? ⟨bw, 2, none⟩ = some (.int .i64 xk) := fun m => x2
                clear zz zk x0 x2 h3 h4 hgt hgr hpr hl hc hkk hcol hjq hu
                have hyes : (kk == 4 || xk == 4) = true → cntB (badB T ⟨xc, 4, ⟨xk, xn, xs⟩⟩) (j + 1) = c + 1 := fun h => by rw [cntB, if_pos (by rw [HBAD.out]; exact h), HC.out]
                have hno : (kk == 4 || xk == 4) = false → cntB (badB T ⟨xc, 4, ⟨xk, xn, xs⟩⟩) (j + 1) = c := fun h => by rw [cntB, if_neg (by rw [HBAD.out, h]; simp), HC.out]
                have HYES : Hid ((kk == 4 || xk == 4) = true → cntB (badB T ⟨xc, 4, ⟨xk, xn, xs⟩⟩) (j + 1) = c + 1) := hyes
                have HNO : Hid ((kk == 4 || xk == 4) = false → cntB (badB T ⟨xc, 4, ⟨xk, xn, xs⟩⟩) (j + 1) = c) := hno
                clear hyes hno
                by_cases hk4 : (kk == 4) = true
                · go_wp2_with fail
                  go_quiet (fail)
                  go_wp2_with fail
                  exact ⟨⟨j + 1, c + 1, by simp, by simp, hjl, HYES.out (by simp [hk4]), HBl.out.tr (Bw.drewN _ _)⟩, by simp [intOf]; omega⟩
                · have hk4 : (kk == 4) = false := by simpa using hk4
                  by_cases hx4 : (xk == 4) = true
                  · go_wp2_with fail
                    go_quiet (fail)
                    go_wp2_with fail
                    exact ⟨⟨j + 1, c + 1, by simp, by simp, hjl, HYES.out (by simp [hx4]), HBl.out.tr (Bw.drewN _ _)⟩, by simp [intOf]; omega⟩
                  · have hx4 : (xk == 4) = false := by simpa using hx4
                    go_wp2_with fail
                    go_quiet (fail)
                    go_wp2_with fail
                    exact ⟨⟨j + 1, c, by simp, rfl, hjl, HNO.out (by simp [hk4, hx4]), HBl.out.tr (Bw.drewN _ _)⟩, by simp [intOf]; omega⟩
              · have hjl' : ¬ (j : Int) < (q : Int) := by omega
                have ej : j = q := by omega
                have hsum : lx + ly + c = q := by rw [← HC.out, ej]; exact HSUM.out
                have hs1 : ((lx : Int) + (ly : Int) + (c : Int) == (q : Int)) = true := by simp; omega
                have HBE : Hid (Bw w wr) := HB11.out.tr HBl.out
                go_wp2_with fail
                go_ret
                exact ⟨by simp, HBE.out⟩
          · have yc : w8.cell? ⟨bw, 1, none⟩ = some (.int .i64 5) := by simp [World.cell?, HBK8.out]
            go_upto_region 33 with fail
            obtain ⟨W9, hW9⟩ : ∃ W, w8.setCell ⟨bw, 1, none⟩ (.int .i64 4) = W := ⟨_, rfl⟩
            have hB9 : W9.heap[bw]? = some (.cells #[.int .i64 xc, .int .i64 4, .int .i64 xk, .int .i64 xn, .string xs] 34 (0, 0)) := by rw [← hW9, blk_set3 HBK8.out]; rfl
            have hbw9 : Bw w W9 := by rw [← hW9]; exact HB9.out.setCell HBS.out _
            have HB10 : Hid (Bw w W9) := hbw9
            have HK9 : Hid (W9.heap[bw]? = some (.cells #[.int .i64 xc, .int .i64 4, .int .i64 xk, .int .i64 xn, .string xs] 34 (0, 0))) := hB9
            have v0 : W9.cell? ⟨bw, 0, none⟩ = some (.int .i64 xc) := by simp [World.cell?, hB9]
            have v1 : W9.cell? ⟨bw, 1, none⟩ = some (.int .i64 4) := by simp [World.cell?, hB9]
            have v2 : W9.cell? ⟨bw, 2, none⟩ = some (.int .i64 xk) := by simp [World.cell?, hB9]
            have v3 : W9.cell? ⟨bw, 3, none⟩ = some (.int .i64 xn) := by simp [World.cell?, hB9]
            have v4 : W9.cell? ⟨bw, 4, none⟩ = some (.string xs) := by simp [World.cell?, hB9]
            rw [hW9]
            clear hW9 hB9 hbw9 yc zo hfz
            obtain ⟨W10, hW10⟩ : ∃ W, W9.alloc (.cells #[.int .i64 xc, .int .i64 4, .int .i64 xk, .int .i64 xn, .string xs] 34) = W := ⟨_, rfl⟩
            have hbb : Bw W9 W10 := by rw [← hW10]; exact Bw.al _ _
            have G := HPT.out W10 W9.heap.size 0 1 (fun _ => ⟨xc, 4, ⟨xk, xn, xs⟩⟩) (HB10.out.tr hbb) (by
              refine .inr ⟨W9.heap.size, 0, rfl, by rw [← hW10]; simp, fun i hi => ?_⟩
              have : i = 0 := by omega
              subst this
              rw [← hW10]
              simp) ⟨HW0.out.1, HW0.out.2.1, by dsimp only; omega, by dsimp only; omega⟩ (by omega)
            have HBB : Hid (Bw W9 W10) := hbb
            clear hbb
            go_wp2_with fail
            refine G.mono ?_
            clear G
            rintro e w11 ⟨py, cy, rfl, hb11⟩
            obtain ⟨ly, hly⟩ : ∃ ly, (sel (metA T 1 (fun _ => ⟨xc, 4, ⟨xk, xn, xs⟩⟩)) q).length = ly := ⟨_, rfl⟩
            have HSUM : Hid (lx + ly + cntB (badB T ⟨xc, 5, ⟨xk, xn, xs⟩⟩) q = q) := by
              show lx + ly + cntB (badB T ⟨xc, 5, ⟨xk, xn, xs⟩⟩) q = q
              rw [← HLX.out, ← hly, ← HAX.out]
              exact parts_once (by rw [HAX.out]; dsimp only; omega) (by rw [HAX.out]; dsimp only; omega) (by rw [HAX.out]) (by rw [HAX.out]) (by rw [HAX.out]; rfl) q
            rw [hly]
            have HB11 : Hid (Bw w w11) := (HB10.out.tr HBB.out).tr hb11
            have hk11 : w11.heap[bw]? = some (.cells #[.int .i64 xc, .int .i64 4, .int .i64 xk, .int .i64 xn, .string xs] 34 (0, 0)) := by
              rw [(HBB.out.tr hb11).block bw (Array.getElem?_eq_some_iff.1 HK9.out).1]
              exact HK9.out
            have HK11 : Hid (w11.heap[bw]? = some (.cells #[.int .i64 xc, .int .i64 4, .int .i64 xk, .int .i64 xn, .string xs] 34 (0, 0))) := hk11
            have HQ60 : Hid (q ≤ 60) := by show q ≤ 60; rw [← HEQ.out]; exact HX.out.zero.1.few
            clear hly hb11 hk11 HK9 HBB HB10 HPT hW10 v0 v1 v2 v3 v4 HLX HBK8 HB9
            have mixed := mixed
            go_wp2_with fail
            go_loopw [18, 19] (fun s18 s19 wr => ∃ j c : Nat, s19 = .int .i64 j ∧ s18 = .int .i64 c ∧ j ≤ q ∧ Hid (cntB (badB T ⟨xc, 5, ⟨xk, xn, xs⟩⟩) j = c) ∧ Hid (Bw w11 wr)) (fun _ s19 _ => q - (intOf s19).toNat)
            case atStart => exact ⟨0, 0, rfl, rfl, Nat.zero_le _, rfl, Below.refl _ _⟩
            case round =>
              obtain ⟨j, c, rfl, rfl, hj, HC, HBl⟩ := hrel
              have hcj : c ≤ j := by rw [← HC.out]; exact cntB_le _ _
              have hq60 : q ≤ 60 := HQ60.out
              by_cases hjl : j < q
              · have hjl' : (j : Int) < (q : Int) := by omega
                have hj0 : (0 : Int) ≤ (j : Int) := by omega
                have hjq : j < T.q := by rw [HEQ.out]; exact hjl
                have hcol := HX.out.zero.1.col HW0.out.1 hjq
                dsimp only at hcol
                obtain ⟨u, hu⟩ : ∃ u : Nat, xc = (u : Int) := ⟨xc.toNat, by omega⟩
                rcases HT.out.next (HB11.out.tr HBl.out) with h | ⟨gt, ot, rfl, hgt, h3⟩
                · omega
                obtain ⟨zz, hvm⟩ := h3 j hjq
                rcases hvm with h | ⟨gr, orr, hpr, hgr, h4⟩
                · omega
                have zk := (h4 u (by omega)).1
                have x0 : wr.cell? ⟨bw, 0, none⟩ = some (.int .i64 (u : Int)) := by
                  rw [HBl.out.cell (p := ⟨bw, 0, none⟩) (Array.getElem?_eq_some_iff.1 HK11.out).1, ← hu]
                  simp [World.cell?, HK11.out]
                have x2 : wr.cell? ⟨bw, 2, none⟩ = some (.int .i64 xk) := by
                  rw [HBl.out.cell (p := ⟨bw, 2, none⟩) (Array.getElem?_eq_some_iff.1 HK11.out).1]
                  simp [World.cell?, HK11.out]
                obtain ⟨lj, hl⟩ : ∃ x, T.L j = x := ⟨_, rfl⟩
                obtain ⟨cj, hc⟩ : ∃ x, T.C j = x := ⟨_, rfl⟩
                obtain ⟨kk, hkk⟩ : ∃ x, (T.v j u).k = x := ⟨_, rfl⟩
                rw [hpr, hl, hc] at zz
                rw [hkk] at zk
                rw [hl] at hcol
                have hu0 : (0 : Int) ≤ (u : Int) := by omega
                have hul : (u : Int) < (lj : Int) := by omega
                have HBAD : Hid (badB T ⟨xc, 5, ⟨xk, xn, xs⟩⟩ j = (kk == 4 || xk == 4)) := by
                  show badB T ⟨xc, 5, ⟨xk, xn, xs⟩⟩ j = (kk == 4 || xk == 4)
                  unfold badB
                  dsimp only
                  rw [show xc.toNat = u by omega, hkk]
                have zzq : ∀ m, (wr.drewN m).cell? ⟨gt, ot + j, none⟩ = some (.slice (some ⟨gr, orr, none⟩) lj cj) := fun m => zz
                have zkq : ∀ m, (wr.drewN m).cell? ⟨gr, orr + u * 3, none⟩ = some (.int .i64 kk) := fun m => zk
                have x0q : ∀ m, (wr.drewN m).cell? ⟨bw, 0, none⟩ = some (.int .i64 (u : Int)) := fun m => x0
                have x2q : ∀ m, (wr.drewN m).cell? ⟨bw, 2, none⟩ = some (.int .i64 xk) := fun m => x2
                clear zz zk x0 x2 h3 h4 hgt hgr hpr hl hc hkk hcol hjq hu
                have hyes : (kk == 4 || xk == 4) = true → cntB (badB T ⟨xc, 5, ⟨xk, xn, xs⟩⟩) (j + 1) = c + 1 := fun h => by rw [cntB, if_pos (by rw [HBAD.out]; exact h), HC.out]
                have hno : (kk == 4 || xk == 4) = false → cntB (badB T ⟨xc, 5, ⟨xk, xn, xs⟩⟩) (j + 1) = c := fun h => by rw [cntB, if_neg (by rw [HBAD.out, h]; simp), HC.out]
                have HYES : Hid ((kk == 4 || xk == 4) = true → cntB (badB T ⟨xc, 5, ⟨xk, xn, xs⟩⟩) (j + 1) = c + 1) := hyes
                have HNO : Hid ((kk == 4 || xk == 4) = false → cntB (badB T ⟨xc, 5, ⟨xk, xn, xs⟩⟩) (j + 1) = c) := hno
                clear hyes hno
                by_cases hk4 : (kk == 4) = true
                · go_wp2_with fail
                  go_quiet (fail)
                  go_wp2_with fail
                  exact ⟨⟨j + 1, c + 1, by simp, by simp, hjl, HYES.out (by simp [hk4]), HBl.out.tr (Bw.drewN _ _)⟩, by simp [intOf]; omega⟩
                · have hk4 : (kk == 4) = false := by simpa using hk4
                  by_cases hx4 : (xk == 4) = true
                  · go_wp2_with fail
                    go_quiet (fail)
                    go_wp2_with fail
                    exact ⟨⟨j + 1, c + 1, by simp, by simp, hjl, HYES.out (by simp [hx4]), HBl.out.tr (Bw.drewN _ _)⟩, by simp [intOf]; omega⟩
                  · have hx4 : (xk == 4) = false := by simpa using hx4
                    go_wp2_with fail
                    go_quiet (fail)
                    go_wp2_with fail
                    exact ⟨⟨j + 1, c, by simp, rfl, hjl, HNO.out (by simp [hk4, hx4]), HBl.out.tr (Bw.drewN _ _)⟩, by simp [intOf]; omega⟩
              · have hjl' : ¬ (j : Int) < (q : Int) := by omega
                have ej : j = q := by omega
                have hsum : lx + ly + c = q := by rw [← HC.out, ej]; exact HSUM.out
                have hs1 : ((lx : Int) + (ly : Int) + (c : Int) == (q : Int)) = true := by simp; omega
                have HBE : Hid (Bw w wr) := HB11.out.tr HBl.out
                go_wp2_with fail
                go_ret
                exact ⟨by simp, HBE.out⟩
          · have yc : w8.cell? ⟨bw, 1, none⟩ = some (.int .i64 6) := by simp [World.cell?, HBK8.out]
            go_upto_region 33 with fail
            obtain ⟨W9, hW9⟩ : ∃ W, w8.setCell ⟨bw, 1, none⟩ (.int .i64 3) = W := ⟨_, rfl⟩
            have hB9 : W9.heap[bw]? = some (.cells #[.int .i64 xc, .int .i64 3, .int .i64 xk, .int .i64 xn, .string xs] 34 (0, 0)) := by rw [← hW9, blk_set3 HBK8.out]; rfl
            have hbw9 : Bw w W9 := by rw [← hW9]; exact HB9.out.setCell HBS.out _
            have HB10 : Hid (Bw w W9) := hbw9
            have HK9 : Hid (W9.heap[bw]? = some (.cells #[.int .i64 xc, .int .i64 3, .int .i64 xk, .int .i64 xn, .string xs] 34 (0, 0))) := hB9
            have v0 : W9.cell? ⟨bw, 0, none⟩ = some (.int .i64 xc) := by simp [World.cell?, hB9]
            have v1 : W9.cell? ⟨bw, 1, none⟩ = some (.int .i64 3) := by simp [World.cell?, hB9]
            have v2 : W9.cell? ⟨bw, 2, none⟩ = some (.int .i64 xk) := by simp [World.cell?, hB9]
            have v3 : W9.cell? ⟨bw, 3, none⟩ = some (.int .i64 xn) := by simp [World.cell?, hB9]
            have v4 : W9.cell? ⟨bw, 4, none⟩ = some (.string xs) := by simp [World.cell?, hB9]
            rw [hW9]
            clear hW9 hB9 hbw9 yc zo hfz
            obtain ⟨W10, hW10⟩ : ∃ W, W9.alloc (.cells #[.int .i64 xc, .int .i64 3, .int .i64 xk, .int .i64 xn, .string xs] 34) = W := ⟨_, rfl⟩
            have hbb : Bw W9 W10 := by rw [← hW10]; exact Bw.al _ _
            have G := HPT.out W10 W9.heap.size 0 1 (fun _ => ⟨xc, 3, ⟨xk, xn, xs⟩⟩) (HB10.out.tr hbb) (by
              refine .inr ⟨W9.heap.size, 0, rfl, by rw [← hW10]; simp, fun i hi => ?_⟩
              have : i = 0 := by omega
              subst this
              rw [← hW10]
              simp) ⟨HW0.out.1, HW0.out.2.1, by dsimp only; omega, by dsimp only; omega⟩ (by omega)
            have HBB : Hid (Bw W9 W10) := hbb
            clear hbb
            go_wp2_with fail
            refine G.mono ?_
            clear G
            rintro e w11 ⟨py, cy, rfl, hb11⟩
            obtain ⟨ly, hly⟩ : ∃ ly, (sel (metA T 1 (fun _ => ⟨xc, 3, ⟨xk, xn, xs⟩⟩)) q).length = ly := ⟨_, rfl⟩
            have HSUM : Hid (lx + ly + cntB (badB T ⟨xc, 6, ⟨xk, xn, xs⟩⟩) q = q) := by
              show lx + ly + cntB (badB T ⟨xc, 6, ⟨xk, xn, xs⟩⟩) q = q
              rw [← HLX.out, ← hly, ← HAX.out]
              exact parts_once (by rw [HAX.out]; dsimp only; omega) (by rw [HAX.out]; dsimp only; omega) (by rw [HAX.out]) (by rw [HAX.out]) (by rw [HAX.out]; rfl) q
            rw [hly]
            have HB11 : Hid (Bw w w11) := (HB10.out.tr HBB.out).tr hb11
            have hk11 : w11.heap[bw]? = some (.cells #[.int .i64 xc, .int .i64 3, .int .i64 xk, .int .i64 xn, .string xs] 34 (0, 0)) := by
              rw [(HBB.out.tr hb11).block bw (Array.getElem?_eq_some_iff.1 HK9.out).1]
              exact HK9.out
            have HK11 : Hid (w11.heap[bw]? = some (.cells #[.int .i64 xc, .int .i64 3, .int .i64 xk, .int .i64 xn, .string xs] 34 (0, 0))) := hk11
            have HQ60 : Hid (q ≤ 60) := by show q ≤ 60; rw [← HEQ.out]; exact HX.out.zero.1.few
            clear hly hb11 hk11 HK9 HBB HB10 HPT hW10 v0 v1 v2 v3 v4 HLX HBK8 HB9
            have mixed := mixed
            go_wp2_with fail
            go_loopw [18, 19] (fun s18 s19 wr => ∃ j c : Nat, s19 = .int .i64 j ∧ s18 = .int .i64 c ∧ j ≤ q ∧ Hid (cntB (badB T ⟨xc, 6, ⟨xk, xn, xs⟩⟩) j = c) ∧ Hid (Bw w11 wr)) (fun _ s19 _ => q - (intOf s19).toNat)
            case atStart => exact ⟨0, 0, rfl, rfl, Nat.zero_le _, rfl, Below.refl _ _⟩
            case round =>
              obtain ⟨j, c, rfl, rfl, hj, HC, HBl⟩ := hrel
              have hcj : c ≤ j := by rw [← HC.out]; exact cntB_le _ _
              have hq60 : q ≤ 60 := HQ60.out
              by_cases hjl : j < q
              · have hjl' : (j : Int) < (q : Int) := by omega
                have hj0 : (0 : Int) ≤ (j : Int) := by omega
                have hjq : j < T.q := by rw [HEQ.out]; exact hjl
                have hcol := HX.out.zero.1.col HW0.out.1 hjq
                dsimp only at hcol
                obtain ⟨u, hu⟩ : ∃ u : Nat, xc = (u : Int) := ⟨xc.toNat, by omega⟩
                rcases HT.out.next (HB11.out.tr HBl.out) with h | ⟨gt, ot, rfl, hgt, h3⟩
                · omega
                obtain ⟨zz, hvm⟩ := h3 j hjq
                rcases hvm with h | ⟨gr, orr, hpr, hgr, h4⟩
                · omega
                have zk := (h4 u (by omega)).1
                have x0 : wr.cell? ⟨bw, 0, none⟩ = some (.int .i64 (u : Int)) := by
                  rw [HBl.out.cell (p := ⟨bw, 0, none⟩) (Array.getElem?_eq_some_iff.1 HK11.out).1, ← hu]
                  simp [World.cell?, HK11.out]
                have x2 : wr.cell? ⟨bw, 2, none⟩ = some (.int .i64 xk) := by
                  rw [HBl.out.cell (p := ⟨bw, 2, none⟩) (Array.getElem?_eq_some_iff.1 HK11.out).1]
                  simp [World.cell?, HK11.out]
                obtain ⟨lj, hl⟩ : ∃ x, T.L j = x := ⟨_, rfl⟩
                obtain ⟨cj, hc⟩ : ∃ x, T.C j = x := ⟨_, rfl⟩
                obtain ⟨kk, hkk⟩ : ∃ x, (T.v j u).k = x := ⟨_, rfl⟩
                rw [hpr, hl, hc] at zz
                rw [hkk] at zk
                rw [hl] at hcol
                have hu0 : (0 : Int) ≤ (u : Int) := by omega
                have hul : (u : Int) < (lj : Int) := by omega
                have HBAD : Hid (badB T ⟨xc, 6, ⟨xk, xn, xs⟩⟩ j = (kk == 4 || xk == 4)) := by
                  show badB T ⟨xc, 6, ⟨xk, xn, xs⟩⟩ j = (kk == 4 || xk == 4)
                  unfold badB
                  dsimp only
                  rw [show xc.toNat = u by omega, hkk]
                have zzq : ∀ m, (wr.drewN m).cell? ⟨gt, ot + j, none⟩ = some (.slice (some ⟨gr, orr, none⟩) lj cj) := fun m => zz
                have zkq : ∀ m, (wr.drewN m).cell? ⟨gr, orr + u * 3, none⟩ = some (.int .i64 kk) := fun m => zk
                have x0q : ∀ m, (wr.drewN m).cell? ⟨bw, 0, none⟩ = some (.int .i64 (u : Int)) := fun m => x0
                have x2q : ∀ m, (wr.drewN m).cell? ⟨bw, 2, none⟩ = some (.int .i64 xk) := fun m => x2
                clear zz zk x0 x2 h3 h4 hgt hgr hpr hl hc hkk hcol hjq hu
                have hyes : (kk == 4 || xk == 4) = true → cntB (badB T ⟨xc, 6, ⟨xk, xn, xs⟩⟩) (j + 1) = c + 1 := fun h => by rw [cntB, if_pos (by rw [HBAD.out]; exact h), HC.out]
                have hno : (kk == 4 || xk == 4) = false → cntB (badB T ⟨xc, 6, ⟨xk, xn, xs⟩⟩) (j + 1) = c := fun h => by rw [cntB, if_neg (by rw [HBAD.out, h]; simp), HC.out]
                have HYES : Hid ((kk == 4 || xk == 4) = true → cntB (badB T ⟨xc, 6, ⟨xk, xn, xs⟩⟩) (j + 1) = c + 1) := hyes
                have HNO : Hid ((kk == 4 || xk == 4) = false → cntB (badB T ⟨xc, 6, ⟨xk, xn, xs⟩⟩) (j + 1) = c) := hno
                clear hyes hno
                by_cases hk4 : (kk == 4) = true
                · go_wp2_with fail
                  go_quiet (fail)
                  go_wp2_with fail
                  exact ⟨⟨j + 1, c + 1, by simp, by simp, hjl, HYES.out (by simp [hk4]), HBl.out.tr (Bw.drewN _ _)⟩, by simp [intOf]; omega⟩
                · have hk4 : (kk == 4) = false := by simpa using hk4
                  by_cases hx4 : (xk == 4) = true
                  · go_wp2_with fail
                    go_quiet (fail)
                    go_wp2_with fail
                    exact ⟨⟨j + 1, c + 1, by simp, by simp, hjl, HYES.out (by simp [hx4]), HBl.out.tr (Bw.drewN _ _)⟩, by simp [intOf]; omega⟩
                  · have hx4 : (xk == 4) = false := by simpa using hx4
                    go_wp2_with fail
                    go_quiet (fail)
                    go_wp2_with fail
                    exact ⟨⟨j + 1, c, by simp, rfl, hjl, HNO.out (by simp [hk4, hx4]), HBl.out.tr (Bw.drewN _ _)⟩, by simp [intOf]; omega⟩
              · have hjl' : ¬ (j : Int) < (q : Int) := by omega
                have ej : j = q := by omega
                have hsum : lx + ly + c = q := by rw [← HC.out, ej]; exact HSUM.out
                have hs1 : ((lx : Int) + (ly : Int) + (c : Int) == (q : Int)) = true := by simp; omega
                have HBE : Hid (Bw w wr) := HB11.out.tr HBl.out
                go_wp2_with fail
                go_ret
                exact ⟨by simp, HBE.out⟩
  · have hv := hnil hx0
    subst hv
    clear hnil hz hx hb5
    rw [errV_of hx0]
    go_wp2_with fail
    refine G.mono ?_
    clear G
    rintro e w6 ⟨⟨x', u, rfl, hx, -, -⟩, hb6⟩
    have ex := hx.one HX.out
    subst ex
    have HB6 : Hid (Bw w w6) := HB5.out.tr hb6
    clear hx hb6 HX
    rw [errV_of hx0]
    go_wp2_with fail
    go_ret
    exact ⟨by simp, HB6.out⟩
end Go.Proofs.YtjbdpcnebilmbaaDoor.so
