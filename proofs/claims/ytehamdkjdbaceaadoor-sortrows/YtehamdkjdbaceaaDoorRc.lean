
/- The document's rows that are like none ahead; two lists of numbers held against each other. Conditions: as each theorem says. -/
import Derived.Test.YtehamdkjdbaceaaDoorRb
namespace Go.Proofs.YtehamdkjdbaceaaDoor.so
open Go.RowKit Go.Sort Go.Shelf
theorem tm_at {w : World} {g o : Nat} {T : Tb} (hg : g < w.heap.size) (h : ∀ i, i < T.q → w.cell? ⟨g, o + i, none⟩ = some (.slice (T.P i) (T.L i) (T.C i)) ∧ VM w (T.P i) (T.L i) (T.v i)) {i : Nat} (hi : i < T.q) (n : Nat) (os : Array Obj) :
    (grow (w.drewN n) os).cell? ⟨g, o + i, none⟩ = some (.slice (T.P i) (T.L i) (T.C i)) := by
  have hb : Below w.heap.size w (grow (w.drewN n) os) := Gr.below ⟨n, os, rfl⟩
  rw [hb.cell (p := ⟨g, _, none⟩) hg]
  exact (h i hi).1
theorem Vl.zero_sym {x y : Vl} (h : x.cmp y = 0) : y.cmp x = 0 := by rw [Vl.cmp_neg, h]; rfl
theorem alk_sym {a b : Nat → Vl} {n : Nat} {c : Nat → Int} (h : alk a b n c = true) : alk b a n c = true := alk_true.2 fun i hi => Vl.zero_sym (alk_true.1 h i hi)
/-- Is a row like one of the first so many? -/
def likeR (T : Tb) (n : Nat) (c : Nat → Int) (i m : Nat) : Bool := (List.range m).any fun k => alk (T.v i) (T.v k) n c
theorem likeR_succ (T : Tb) (n : Nat) (c : Nat → Int) (i m : Nat) : likeR T n c i (m + 1) = (likeR T n c i m || alk (T.v i) (T.v m) n c) := by
  unfold likeR
  rw [List.range_succ, List.any_append]
  simp
theorem likeR_is (T : Tb) (n : Nat) (c : Nat → Int) (i : Nat) : likeR T n c i i = likeA T n c i := by
  rw [Bool.eq_iff_iff, likeA_true]
  unfold likeR
  rw [List.any_eq_true]
  constructor
  · rintro ⟨k, hk, h⟩; exact ⟨k, List.mem_range.1 hk, alk_sym h⟩
  · rintro ⟨k, hk, h⟩; exact ⟨k, List.mem_range.2 hk, alk_sym h⟩
set_option maxRecDepth 100000 in
set_option maxHeartbeats 4000000 in
theorem rdistinct_any (T : Tb) (p : Option Addr) (c : Nat) (p2 : Option Addr) (n c2 : Nat) (d : Nat → Int) (w : World) (hT : TM w p T) (hI : IM w p2 n d) (hS : Snd T) (hn : n ≤ 12) (hco : ∀ i, i < n → colOk T (d i)) :
    Calls Tryd.prog 14 #[.slice p T.q c, .slice p2 n c2] w fun e w' => ∃ v, e = .returned v ∧ IV w v (dst T n d T.q) w' := by
  have HA : Hid (∀ i j wx, i < T.q → j < T.q → Bw w wx → Calls Tryd.prog 27 #[.slice (T.P i) (T.L i) (T.C i), .slice (T.P j) (T.L j) (T.C j), .slice p2 n c2] wx fun e w' => e = .returned (.bool (alk (T.v i) (T.v j) n d)) ∧ Gr wx w') := by
    intro i j wx hi hj hb
    rcases hT.next hb with h | ⟨g, o, -, -, h3⟩
    · omega
    refine ralike_any _ _ _ _ _ _ _ _ _ _ _ _ wx (h3 i hi).2 (h3 j hj).2 (hI.next hb) hn (fun u hu => ?_) (hS.ok i hi) (hS.ok j hj)
    have c1 := hS.col (hco u hu) hi
    have c2 := hS.col (hco u hu) hj
    exact ⟨c1.1, c1.2.1, c2.2.1⟩
  have HT : Hid (TM w p T) := hT
  have hq60 := hS.few
  obtain ⟨q, eq⟩ : ∃ q, T.q = q := ⟨_, rfl⟩
  have HEQ : Hid (T.q = q) := eq
  rw [eq] at HA hq60 ⊢
  clear hT hI hS hco eq
  have mixed := mixed
  go_enter Tryd.func14, Tryd.ntmps14
  go_wp2_with fail
  go_loopw [5, 6] (fun vl vi wr => ∃ j : Nat, vi = .int .i64 j ∧ j ≤ q ∧ Hid (IV w vl (dst T n d j) wr)) (fun _ vi _ => q - (intOf vi).toNat)
  case atStart => exact ⟨0, rfl, Nat.zero_le _, IV.nil w⟩
  case round =>
    obtain ⟨i, rfl, hi, HV⟩ := hrel
    by_cases hlt : i < q
    · have hlt' : (i : Int) < (q : Int) := by omega
      have hi0 : (0 : Int) ≤ (i : Int) := by omega
      go_wp2_with fail
      generalize wr = wo at *
      go_loopw [7, 8] (fun s7 s8 wr => ∃ k : Nat, s8 = .int .i64 k ∧ k ≤ i ∧ s7 = .bool (!likeR T n d i k) ∧ Hid (Gr wo wr)) (fun _ s8 _ => i - (intOf s8).toNat)
      case atStart => exact ⟨0, rfl, Nat.zero_le _, rfl, Gr.refl _⟩
      case round =>
        obtain ⟨k, rfl, hk, rfl, HB⟩ := hrel
        by_cases hlt2 : k < i
        · have hlt2' : (k : Int) < (i : Int) := by omega
          have hk0 : (0 : Int) ≤ (k : Int) := by omega
          have hkq : (k : Int) < (q : Int) := by omega
          rcases HT.out.next (HV.out.below.tr HB.out.below) with h | ⟨g, o, rfl, hg, h3⟩
          · have := HEQ.out; omega
          have hiq : i < T.q := by rw [HEQ.out]; omega
          have hkq' : k < T.q := by rw [HEQ.out]; omega
          have c1 := fun m os => tm_at hg h3 hiq m os
          have c2' := fun m os => tm_at hg h3 hkq' m os
          have hc := fun m os => HA.out i k (grow (wr.drewN m) os) (by omega) (by omega) ((HV.out.below.tr HB.out.below).tr (Gr.below ⟨m, os, rfl⟩))
          obtain ⟨A, hA⟩ : ∃ A, alk (T.v i) (T.v k) n d = A := ⟨_, rfl⟩
          rw [hA] at hc
          have HAA : Hid (alk (T.v i) (T.v k) n d = A) := hA
          obtain ⟨R, hR⟩ : ∃ R, likeR T n d i k = R := ⟨_, rfl⟩
          have HRR : Hid (likeR T n d i k = R) := hR
          rw [hR]
          clear hA hR h3 hg
          generalize T.P i = pi at *
          generalize T.L i = li at *
          generalize T.C i = ci at *
          generalize T.P k = pk at *
          generalize T.L k = lk at *
          generalize T.C k = ck at *
          go_wp2_with fail
          go_quiet_grown (first | (go_at_call 27; refine Calls.grown_of (hc _ _)))
          have HB2 : Hid (Gr wo (grow (wr.drewN nq) osq)) := HB.out.trans ⟨nq, osq, rfl⟩
          clear c1 c2' hc HB
          generalize grow (wr.drewN nq) osq = w2 at *
          cases A
          all_goals
            go_wp2_with fail
            exact ⟨⟨k + 1, by simp, hlt2, by rw [likeR_succ, HRR.out, HAA.out]; cases R <;> rfl, HB2⟩, by simp [intOf]; omega⟩
        · have hlt2' : ¬ (k : Int) < (i : Int) := by omega
          have ek : k = i := by omega
          subst ek
          rw [likeR_is]
          have HV2 : Hid (IV w u5 (dst T n d k) wr) := HV.out.next HB.out.below
          obtain ⟨R, hR⟩ : ∃ R, likeA T n d k = R := ⟨_, rfl⟩
          have HLX : Hid (likeA T n d k = R) := hR
          rw [hR]
          clear hR HB HV
          cases R with
          | true =>
            go_wp2_with fail
            exact ⟨⟨k + 1, by simp, hlt, by rw [dst_yes HLX.out]; exact HV2⟩, by simp [intOf]; omega⟩
          | false =>
            have hlen := dst_len T n d k
            obtain ⟨pv, cv, rfl, -⟩ := HV2.out.im
            obtain ⟨g2, cc, w3, hr, hV3⟩ := HV2.out.one (by omega) (k : Int)
            rw [← dst_no HLX.out] at hV3
            have HV3 : Hid (IV w (.slice (some ⟨g2, 0, none⟩) ((dst T n d k).length + 1) cc) (dst T n d (k + 1)) w3) := hV3
            obtain ⟨ln, hln⟩ : ∃ ln, (dst T n d k).length = ln := ⟨_, rfl⟩
            rw [hln] at hr hlen HV3 ⊢
            have HR : Hid ((Builtin.append_ #[24, 24] 24 #[.slice pv ln cv, .slice (some ⟨wr.heap.size, 0, none⟩) 1 1]).run Tryd.prog (wr.alloc (.cells #[.int .i64 (k : Int)] 3)) = .ok (.slice (some ⟨g2, 0, none⟩) (ln + 1) cc) w3) := hr
            clear hV3 HV2 hr
            go_wp2_with (first | (at_builtin; refine wpList_append_eq rfl _ _ 24 rfl _ _ _ _ rfl rfl HR.out ?_))
            exact ⟨⟨k + 1, by simp, hlt, HV3⟩, by simp [intOf]; omega⟩
    · have hj2 : ¬ (i : Int) < (q : Int) := by omega
      have ej : i = q := by omega
      subst ej
      go_wp2_with fail
      go_ret
      exact ⟨_, rfl, HV.out⟩
end Go.Proofs.YtehamdkjdbaceaaDoor.so
