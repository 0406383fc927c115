
/- The law SortOnce, from its second loop on: each row that is left out is like one ahead that is left. Conditions: as each theorem says. -/
import Derived.Test.YtehamdkjdbaceaaSg
import Derived.Deep.CutBlock
namespace Go.Proofs.Ytehamdkjdbaceaa.so
open Go.RowKit Go.Sort Go.Shelf
def headR : Code → Option Nat
  | .region m _ _ => some m
  | .seq a _ => headR a
  | _ => none
/-- All from a region on, whatever it is bracketed with. -/
def findSeq (n : Nat) : Code → Option Code
  | .seq a b => if headR a = some n then some (.seq a b) else match findSeq n a with
    | some c => some c
    | none => findSeq n b
  | .cond _ a b => match findSeq n a with
    | some c => some c
    | none => findSeq n b
  | .loop c => findSeq n c
  | .block _ c => findSeq n c
  | .scope c => findSeq n c
  | _ => none
/-- A table, opened in every world that has grown. -/
theorem tm_at {w : World} {g o : Nat} {T : Tb} (hg : g < w.heap.size) (h : ∀ i, i < T.q → w.cell? ⟨g, o + i, none⟩ = some (.slice (T.P i) (T.L i) (T.C i)) ∧ VM w (T.P i) (T.L i) (T.v i)) {i : Nat} (hi : i < T.q) (n : Nat) (os : Array Obj) :
    (grow (w.drewN n) os).cell? ⟨g, o + i, none⟩ = some (.slice (T.P i) (T.L i) (T.C i)) := by
  have hb : Below w.heap.size w (grow (w.drewN n) os) := Gr.below ⟨n, os, rfl⟩
  rw [hb.cell (p := ⟨g, _, none⟩) hg]
  exact (h i hi).1
theorem cell_at {w : World} {g o : Nat} {v : Value} (hg : g < w.heap.size) (h : w.cell? ⟨g, o, none⟩ = some v) (n : Nat) (os : Array Obj) : (grow (w.drewN n) os).cell? ⟨g, o, none⟩ = some v := by
  have hb : Below w.heap.size w (grow (w.drewN n) os) := Gr.below ⟨n, os, rfl⟩
  rw [hb.cell (p := ⟨g, _, none⟩) hg]
  exact h
/-- Do the first so many columns not tell two rows apart? -/
theorem alk_succ (a b : Nat → Vl) (n : Nat) (c : Nat → Int) : alk a b (n + 1) c = (alk a b n c && ((a (c n).toNat).cmp (b (c n).toNat) == 0)) := by
  unfold alk
  rw [List.range_succ, List.all_append]
  simp
theorem alk_mono {a b : Nat → Vl} {n m : Nat} {c : Nat → Int} (h : alk a b m c = false) (hm : m ≤ n) : alk a b n c = false := by
  cases e : alk a b n c with
  | false => rfl
  | true => rw [alk_true.2 (fun i hi => alk_true.1 e i (by omega))] at h; cases h
noncomputable def tail14C : Code := ((Try.f4.body.bind (findSeq 14)).getD .skip)
set_option maxRecDepth 1000000 in
set_option maxHeartbeats 16000000 in
theorem tail14 (T : Tb) (p : Option Addr) (c : Nat) (p2 : Option Addr) (n c2 : Nat) (d : Nat → Int) (q gi : Nat) (w0 w : World) (HEQ : Hid (T.q = q)) (HT : Hid (TM w p T)) (HI : Hid (IM w p2 n d)) (HS : Hid (Snd T)) (hn12 : n ≤ 12) (HCO : Hid (∀ i, i < n → colOk T (d i))) (HA : Hid (BA w gi q (fun k => !likeA T n d k))) (HB0 : Hid (Bw w0 w))
    (l2 l3 l4 l5 l6 l7 l8 l10 l11 l12 l13 l14 l15 l16 l17 l18 l19 l20 l21 l22 l23 l24 l25 l26 l27 l28 l29 l30 l31 l32 l33 l34 l35 l36 l37 l38 l39 l40 l41 l42 l43 l44 l45 l46 l47 l48 l49 l50 l51 l52 l53 l54 l55 l56 l57 l58 l59 l60 l61 l62 l63 l64 l65 l66 l67 l68 l69 l70 l71 l72 l73 l74 l75 l76 l77 l78 l79 l80 l81 l82 l83 l84 l85 l86 l87 l88 l89 l90 l91 l92 l93 l94 l95 l96 l97 l98 l99 l100 l101 l102 l103 l104 l105 l106 l107 l108 l109 l110 l111 l112 l113 l114 l115 l116 l117 l118 l119 l120 l121 l122 l123 l124 l125 l126 l127 l128 l129 l130 l131 l132 l133 l134 l135 l136 l137 l138 l139 l140 l141 l142 l143 : Value) :
    Code.wp Try.prog tail14C (bodyPost Try.prog Try.f4 fun e w' => e = .returned (.bool true) ∧ Bw w0 w') ⟨#[.slice p q c, .slice p2 n c2, l2, l3, l4, l5, l6, l7, l8, .slice (some ⟨gi, 0, none⟩) q q, l10, l11, l12, l13, l14, l15, l16, l17, l18, l19, l20, l21, l22, l23, l24, l25, l26, l27, l28, l29, l30, l31, l32, l33, l34, l35, l36, l37, l38, l39, l40, l41, l42, l43, l44, l45, l46, l47, l48, l49, l50, l51, l52, l53, l54, l55, l56, l57, l58, l59, l60, l61, l62, l63, l64, l65, l66, l67, l68, l69, l70, l71, l72, l73, l74, l75, l76, l77, l78, l79, l80, l81, l82, l83, l84, l85, l86, l87, l88, l89, l90, l91, l92, l93, l94, l95, l96, l97, l98, l99, l100, l101, l102, l103, l104, l105, l106, l107, l108, l109, l110, l111, l112, l113, l114, l115, l116, l117, l118, l119, l120, l121, l122, l123, l124, l125, l126, l127, l128, l129, l130, l131, l132, l133, l134, l135, l136, l137, l138, l139, l140, l141, l142, l143], []⟩ w := by
  dsimp only
  conv => arg 2; whnf
  have mixed := mixed
  have hq60 : q ≤ 60 := by rw [← HEQ.out]; exact HS.out.few
  go_wp2_with fail
  go_loopw [11] (fun s11 wr => ∃ i : Nat, s11 = .int .i64 i ∧ i ≤ q ∧ Hid (Bw w wr)) (fun s11 _ => q - (intOf s11).toNat)
  case atStart => exact ⟨0, rfl, Nat.zero_le _, Below.refl _ _⟩
  case round =>
    obtain ⟨i, rfl, hi, HB⟩ := hrel
    by_cases hlt : i < q
    · have hlt' : (i : Int) < (q : Int) := by omega
      go_wp2_with fail
      generalize wr = wo at *
      go_loopw [12, 13] (fun s12 s13 wr => ∃ k : Nat, s13 = .int .i64 k ∧ k ≤ i ∧ s12 = .bool (likeB T n d i k) ∧ Hid (Bw w wr)) (fun _ s13 _ => i - (intOf s13).toNat)
      case atStart => exact ⟨0, rfl, Nat.zero_le _, rfl, HB⟩
      case round =>
        clear HB
        obtain ⟨k, rfl, hk, rfl, HB⟩ := hrel
        by_cases hlt2 : k < i
        · have hlt2' : (k : Int) < (i : Int) := by omega
          have hk0 : (0 : Int) ≤ (k : Int) := by omega
          have hkq : (k : Int) < (q : Int) := by omega
          have y0 := (HA.out.next HB.out).at (i := k) (by omega)
          obtain ⟨B0, hB0⟩ : ∃ b, (!likeA T n d k) = b := ⟨_, rfl⟩
          rw [hB0] at y0
          have HB0' : Hid ((!likeA T n d k) = B0) := hB0
          clear hB0
          obtain ⟨LB, hLB⟩ : ∃ b, likeB T n d i k = b := ⟨_, rfl⟩
          have HLB : Hid (likeB T n d i k = LB) := hLB
          rw [hLB]
          clear hLB
          go_wp2_with fail
          generalize wr = wi at *
          go_loopw [14, 15] (fun s14 s15 wr => ∃ j : Nat, s15 = .int .i64 j ∧ j ≤ n ∧ s14 = .bool (B0 && alk (T.v i) (T.v k) j d) ∧ Hid (Bw w wr)) (fun _ s15 _ => n - (intOf s15).toNat)
          case atStart => exact ⟨0, rfl, Nat.zero_le _, by simp [alk], HB⟩
          case round =>
            clear HB y0
            obtain ⟨j, rfl, hj, rfl, HB⟩ := hrel
            by_cases hlt3 : j < n
            · have hlt3' : (j : Int) < (n : Int) := by omega
              have hj0 : (0 : Int) ≤ (j : Int) := by omega
              have hi0 : (0 : Int) ≤ (i : Int) := by omega
              obtain ⟨A0, hA0⟩ : ∃ b, (B0 && alk (T.v i) (T.v k) j d) = b := ⟨_, rfl⟩
              have HA0 : Hid ((B0 && alk (T.v i) (T.v k) j d) = A0) := hA0
              rw [hA0]
              clear hA0
              cases A0 with
              | true =>
                have hiq : i < T.q := by rw [HEQ.out]; omega
                have hkq' : k < T.q := by rw [HEQ.out]; omega
                obtain ⟨e1, e2, e3, e4⟩ := HS.out.col (HCO.out j hlt3) hiq
                obtain ⟨-, f2, f3, -⟩ := HS.out.col (HCO.out j hlt3) hkq'
                obtain ⟨t, ht⟩ : ∃ t : Nat, (d j).toNat = t := ⟨_, rfl⟩
                rw [ht] at e3 e4 f3
                have HX : Hid ((d j).toNat = t) := ht
                clear ht
                rcases HT.out.next HB.out with h | ⟨g, o, rfl, hg, h3⟩
                · omega
                have c1 := fun m os => tm_at hg h3 hiq m os
                have c2' := fun m os => tm_at hg h3 hkq' m os
                rcases HI.out.next HB.out with h | ⟨g2, o2, rfl, hg2, h4⟩
                · omega
                have c3 := fun m os => cell_at hg2 (h4 j hlt3) m os
                rw [← e4] at c3 e1 e2 f2
                rcases (h3 i hiq).2 with h | ⟨ga, oa, ea, hga, ha⟩
                · omega
                rcases (h3 k hkq').2 with h | ⟨gb, ob, eb, hgb, hb⟩
                · omega
                rw [ea] at c1
                rw [eb] at c2'
                have z1 := fun m os => (vm_at hga ha (i := t) e3 m os).1
                have z2 := fun m os => (vm_at hga ha (i := t) e3 m os).2.1
                have z3 := fun m os => (vm_at hga ha (i := t) e3 m os).2.2
                have x1 := fun m os => (vm_at hgb hb (i := t) f3 m os).1
                have x2 := fun m os => (vm_at hgb hb (i := t) f3 m os).2.1
                have x3 := fun m os => (vm_at hgb hb (i := t) f3 m os).2.2
                have hc := fun m os => vcmp_gr (T.v i t) (T.v k t) (grow (wr.drewN m) os)
                have HQ : Hid ((T.v i (d j).toNat).cmp (T.v k (d j).toNat) = (T.v i t).cmp (T.v k t)) := by show _ = _; rw [HX.out]
                clear h3 h4 ha hb hga hgb ea eb hg hg2 e4
                generalize (T.v i t).cmp (T.v k t) = Q at *
                generalize T.v i t = va at *
                generalize T.v k t = vb at *
                obtain ⟨k1, n1', s1⟩ := va
                obtain ⟨k2, n2', s2⟩ := vb
                dsimp only at z1 z2 z3 x1 x2 x3 hc
                generalize T.L i = li at *
                generalize T.C i = ci at *
                generalize T.L k = lk at *
                generalize T.C k = ck at *
                go_wp2_with fail
                go_quiet_grown (first | (go_at_call 7; refine Calls.grown_of (hc _ _)))
                have HB2 : Hid (Bw w (grow (wr.drewN nq) osq)) := HB.out.tr (Gr.below ⟨nq, osq, rfl⟩)
                have HN : Hid ((B0 && alk (T.v i) (T.v k) (j + 1) d) = (Q == 0)) := by
                  show _ = _
                  rw [alk_succ, ← Bool.and_assoc, HA0.out, HQ.out, Bool.true_and]
                clear c1 c2' c3 z1 z2 z3 x1 x2 x3 hc HB
                generalize grow (wr.drewN nq) osq = wz at *
                go_wp2_with fail
                exact ⟨⟨j + 1, by simp, hlt3, by rw [HN.out], HB2⟩, by simp [intOf]; omega⟩
              | false =>
                have HN : Hid ((!likeA T n d k && alk (T.v i) (T.v k) n d) = false) := by
                  show _ = _
                  rw [HB0'.out]
                  have h0 := HA0.out
                  cases B0 with
                  | false => rfl
                  | true =>
                    rw [Bool.true_and] at h0 ⊢
                    exact alk_mono h0 (by omega)
                clear HA0
                cases LB
                all_goals
                  go_wp2_with fail
                  exact ⟨⟨k + 1, by simp, hlt2, by rw [likeB_succ, HLB.out, HN.out]; rfl, HB⟩, by simp [intOf]; omega⟩
            · have hlt3' : ¬ (j : Int) < (n : Int) := by omega
              have ej : j = n := by omega
              subst ej
              obtain ⟨A0, hA0⟩ : ∃ b, (B0 && alk (T.v i) (T.v k) j d) = b := ⟨_, rfl⟩
              have HN : Hid ((!likeA T j d k && alk (T.v i) (T.v k) j d) = A0) := by show _ = _; rw [HB0'.out]; exact hA0
              rw [hA0]
              clear hA0
              cases LB <;> cases A0
              all_goals
                go_wp2_with fail
                exact ⟨⟨k + 1, by simp, hlt2, by rw [likeB_succ, HLB.out, HN.out]; rfl, HB⟩, by simp [intOf]; omega⟩
        · have hlt2' : ¬ (k : Int) < (i : Int) := by omega
          have ek : k = i := by omega
          subst ek
          rw [likeB_is]
          have y0 := (HA.out.next HB.out).at (i := k) (by omega)
          obtain ⟨B0, hB0⟩ : ∃ b, likeA T n d k = b := ⟨_, rfl⟩
          rw [hB0] at y0 ⊢
          clear hB0
          have hk0 : (0 : Int) ≤ (k : Int) := by omega
          have hbb : (B0 == !B0) = false := by cases B0 <;> rfl
          go_wp2_with fail
          exact ⟨⟨k + 1, by simp, hlt, HB⟩, by simp [intOf]; omega⟩
    · have hlt' : ¬ (i : Int) < (q : Int) := by omega
      go_wp2_with fail
      go_ret
      exact ⟨rfl, HB0.out.tr HB.out⟩
end Go.Proofs.Ytehamdkjdbaceaa.so
