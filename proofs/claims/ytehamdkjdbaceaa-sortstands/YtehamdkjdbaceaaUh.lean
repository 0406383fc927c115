
/- The law SortStands, from its first loop on: each number once, each row no more than the next. Conditions: as each theorem says. -/
import Derived.Test.YtehamdkjdbaceaaUg
import Derived.Test.YtehamdkjdbaceaaSj
namespace Go.Proofs.Ytehamdkjdbaceaa.so
open Go.RowKit Go.Sort Go.Shelf
theorem nthN_at {Z : List Nat} {i : Nat} (h : i < Z.length) : nthN Z i = ((Z[i] : Nat) : Int) := by
  unfold nthN
  rw [List.getD_eq_getElem?_getD, List.getElem?_map, List.getElem?_eq_getElem h]
  rfl
/-- Keys, opened in every world that has grown. -/
theorem km_at {w : World} {g o n : Nat} {c : Nat → Int} {d : Nat → Bool} (hg : g < w.heap.size) (h : ∀ i, i < n → w.cell? ⟨g, o + i * 2, none⟩ = some (.int .i64 (c i)) ∧ w.cell? ⟨g, o + i * 2 + 1, none⟩ = some (.bool (d i))) {i : Nat} (hi : i < n) (m : Nat) (os : Array Obj) :
    (grow (w.drewN m) os).cell? ⟨g, o + i * 2, none⟩ = some (.int .i64 (c i)) := by
  have hb : Below w.heap.size w (grow (w.drewN m) os) := Gr.below ⟨m, os, rfl⟩
  rw [hb.cell (p := ⟨g, _, none⟩) hg]
  exact (h i hi).1
theorem take_seen {Z : List Nat} (hn : Z.Nodup) {i : Nat} (h : i < Z.length) : Z[i] ∉ Z.take i := by
  intro hm
  obtain ⟨k, hk, e⟩ := List.getElem_of_mem hm
  rw [List.length_take] at hk
  rw [List.getElem_take] at e
  have := (List.getElem_inj hn).1 e
  omega
noncomputable def tail10C : Code := ((Try.f3.body.bind (findSeq 10)).getD .skip)
set_option maxRecDepth 1000000 in
set_option maxHeartbeats 16000000 in
theorem tail10 (T : Tb) (p : Option Addr) (cp : Nat) (p3 : Option Addr) (n c3 : Nat) (c : Nat → Int) (d : Nat → Bool) (q cv gi : Nat) (pv : Option Addr) (Z : List Nat) (w0 wb w : World) (HEQ : Hid (T.q = q)) (HT : Hid (TM wb p T)) (HK : Hid (KM wb p3 n c d)) (HCF : Hid (CF T n c 0)) (HL : Hid (∀ i, i < T.q → T.L i ≤ 9223372036854775807)) (HZ : Hid (StN T n c d Z)) (HIV : Hid (IM wb pv q (nthN Z))) (hgi : wb.heap.size ≤ gi) (HA : Hid (BA w gi q (fun _ => false))) (HB : Hid (Bw wb w)) (HB0 : Hid (Bw w0 wb))
    (l2 l3 l4 l5 l6 l8 l10 l11 l12 l13 l14 l15 l16 l17 l18 l19 l20 l21 l22 l23 l24 l25 l26 l27 l28 l29 l30 l31 l32 l33 l34 l35 l36 l37 l38 l39 l40 l41 l42 l43 l44 l45 l46 l47 l48 l49 l50 l51 l52 l53 l54 l55 l56 l57 l58 l59 l60 l61 l62 l63 l64 l65 l66 l67 l68 l69 l70 l71 l72 l73 l74 l75 l76 l77 l78 l79 l80 l81 l82 l83 l84 l85 l86 l87 l88 l89 l90 l91 l92 l93 l94 l95 l96 l97 l98 l99 l100 l101 l102 l103 l104 l105 l106 l107 l108 l109 l110 l111 l112 l113 l114 l115 l116 l117 l118 l119 l120 l121 l122 l123 l124 l125 l126 l127 l128 l129 l130 l131 l132 l133 l134 l135 l136 l137 l138 l139 l140 l141 l142 l143 l144 l145 l146 l147 l148 l149 l150 l151 l152 l153 l154 l155 l156 l157 l158 l159 l160 l161 l162 l163 l164 l165 l166 l167 l168 l169 l170 l171 l172 l173 l174 l175 l176 l177 l178 l179 l180 l181 l182 l183 l184 l185 l186 l187 l188 l189 l190 l191 l192 l193 l194 l195 l196 l197 l198 l199 : Value) :
    Code.wp Try.prog tail10C (bodyPost Try.prog Try.f3 fun e w' => e = .returned (.bool true) ∧ Bw w0 w') ⟨#[.slice p q cp, .slice p3 n c3, l2, l3, l4, l5, l6, .slice pv q cv, l8, .slice (some ⟨gi, 0, none⟩) q q, l10, l11, l12, l13, l14, l15, l16, l17, l18, l19, l20, l21, l22, l23, l24, l25, l26, l27, l28, l29, l30, l31, l32, l33, l34, l35, l36, l37, l38, l39, l40, l41, l42, l43, l44, l45, l46, l47, l48, l49, l50, l51, l52, l53, l54, l55, l56, l57, l58, l59, l60, l61, l62, l63, l64, l65, l66, l67, l68, l69, l70, l71, l72, l73, l74, l75, l76, l77, l78, l79, l80, l81, l82, l83, l84, l85, l86, l87, l88, l89, l90, l91, l92, l93, l94, l95, l96, l97, l98, l99, l100, l101, l102, l103, l104, l105, l106, l107, l108, l109, l110, l111, l112, l113, l114, l115, l116, l117, l118, l119, l120, l121, l122, l123, l124, l125, l126, l127, l128, l129, l130, l131, l132, l133, l134, l135, l136, l137, l138, l139, l140, l141, l142, l143, l144, l145, l146, l147, l148, l149, l150, l151, l152, l153, l154, l155, l156, l157, l158, l159, l160, l161, l162, l163, l164, l165, l166, l167, l168, l169, l170, l171, l172, l173, l174, l175, l176, l177, l178, l179, l180, l181, l182, l183, l184, l185, l186, l187, l188, l189, l190, l191, l192, l193, l194, l195, l196, l197, l198, l199], []⟩ w := by
  dsimp only
  conv => arg 2; whnf
  have mixed := mixed
  have hq60 : q ≤ 60 := by rw [← HEQ.out]; exact HCF.out.zero.1.few
  have hn12 : n ≤ 12 := HCF.out.zero.2.1
  have HZL : Hid (Z.length = q) := by show Z.length = q; rw [stn_len HZ.out, HEQ.out]
  have HND : Hid (Z.Nodup) := HZ.out.1.nodup_iff.2 List.nodup_range
  have HZM : Hid (∀ x ∈ Z, x < q) := fun x hx => by have := List.mem_range.1 (HZ.out.1.mem_iff.1 hx); rw [← HEQ.out]; exact this
  let BPX := bodyPost Try.prog Try.f3 (fun _ _ => True)
  go_upto_block 0 with fail
  go_cut [] (fun wx => Hid (Bw wb wx))
  case first =>
    go_wp2_with fail
    go_loopw [10] (fun s10 wr => ∃ i : Nat, s10 = .int .i64 i ∧ i ≤ q ∧ Hid (Bw wb wr) ∧ Hid (BA wr gi q (fun k => decide (k ∈ Z.take i)))) (fun s10 _ => q - (intOf s10).toNat)
    case atStart => exact ⟨0, rfl, Nat.zero_le _, HB, by show BA _ _ _ _; simpa using HA.out⟩
    case round =>
      clear HA HB
      obtain ⟨i, rfl, hi, HB, HA⟩ := hrel
      by_cases hlt : i < q
      · have hlt' : (i : Int) < (q : Int) := by omega
        have hi0 : (0 : Int) ≤ (i : Int) := by omega
        rcases HIV.out.next HB.out with h | ⟨g, o, rfl, hg, h3⟩
        · omega
        have hil : i < Z.length := by rw [HZL.out]; exact hlt
        have HIL : Hid (i < Z.length) := hil
        obtain ⟨t, et⟩ : ∃ t, Z[i] = t := ⟨_, rfl⟩
        have htq : t < q := HZM.out t (by rw [← et]; exact List.getElem_mem hil)
        have c1 := h3 i hlt
        have e1 : nthN Z i = ((t : Nat) : Int) := (nthN_at hil).trans (congrArg (fun x : Nat => (x : Int)) et)
        rw [e1] at c1
        have HC1 : Hid (wr.cell? ⟨g, o + i, none⟩ = some (.int .i64 ((t : Nat) : Int))) := c1
        have HET : Hid (∀ h : i < Z.length, Z[i] = t) := fun _ => et
        have hseen : decide (t ∈ Z.take i) = false := decide_eq_false (by rw [← et]; exact take_seen HND.out hil)
        have c3 := HA.out.at htq
        rw [hseen] at c3
        have c4 := HA.out.fz t
        have k1a : ¬ (t : Int) < 0 := by omega
        have k1 : decide ((t : Int) < 0) = false := decide_eq_false (by omega)
        have k2n : ¬ q ≤ t := by omega
        have k2m : decide (q ≤ t) = false := decide_eq_false (by omega)
        have ht0 : (0 : Int) ≤ (t : Int) := by omega
        have htq' : (t : Int) < (q : Int) := by omega
        have HA2 : Hid (BA (wr.setCell ⟨gi, t, none⟩ (.bool true)) gi q (fun k => decide (k ∈ Z.take (i + 1)))) := by
          have h2 := HA.out.set t true
          have e : (fun k => if k = t then true else decide (k ∈ Z.take i)) = (fun k : Nat => decide (k ∈ Z.take (i + 1))) := by
            funext k
            have eT : Z.take (i + 1) = Z.take i ++ [t] := (List.take_succ_eq_append_getElem hil).trans (congrArg (fun x => Z.take i ++ [x]) et)
            rw [eT]
            by_cases e : k = t
            · subst e; simp
            · rw [if_neg e]; simp [e]
          rw [e] at h2
          exact h2
        have HB2 : Hid (Bw wb (wr.setCell ⟨gi, t, none⟩ (.bool true))) := HB.out.setCell hgi _
        clear et hseen HA
        by_cases hi1 : i = 0
        · subst hi1
          clear h3 hil
          have c1' : wr.cell? ⟨g, o, none⟩ = some (.int .i64 ((t : Nat) : Int)) := c1
          have hq0 : (0 : Int) < (q : Int) := by omega
          go_wp2_with fail
          exact ⟨⟨1, by simp, by omega, HB2, HA2⟩, by simp [intOf]; omega⟩
        · obtain ⟨i', hii⟩ : ∃ i', i = i' + 1 := ⟨i - 1, by omega⟩
          have hi'l : i' < Z.length := by omega
          obtain ⟨s, es⟩ : ∃ s, Z[i'] = s := ⟨_, rfl⟩
          have hsq : s < q := HZM.out s (by rw [← es]; exact List.getElem_mem hi'l)
          have hTn : Tn T n c d s t := by
            have := List.pairwise_iff_getElem.1 HZ.out.2 i' i hi'l hil (by omega)
            rw [es, HET.out hil] at this
            exact this
          have HTN : Hid (Tn T n c d s t) := hTn
          have c2' := h3 i' (by omega)
          have e2 : nthN Z i' = ((s : Nat) : Int) := (nthN_at hi'l).trans (congrArg (fun x : Nat => (x : Int)) es)
          rw [e2] at c2'
          subst hii
          have hne0 : (((i' : Int) + 1) == 0) = false := by simp; omega
          have hne1 : ¬ (i' : Int) + 1 = 0 := by omega
          have ea : ((i' : Int) + 1).toNat = i' + 1 := by omega
          have pa : (0 : Int) ≤ (i' : Int) + 1 := by omega
          have ba : (i' : Int) + 1 < (q : Int) := by omega
          have ra : IntKind.i64.wrap ((i' : Int) + 1) = (i' : Int) + 1 := by rw [IntKind.wrap_i64]; omega
          have pc : (0 : Int) ≤ (i' : Int) := by omega
          have bc : (i' : Int) < (q : Int) := by omega
          have rc : IntKind.i64.wrap (i' : Int) = (i' : Int) := by rw [IntKind.wrap_i64]; omega
          have hIV2 := HIV.out.next HB2.out
          have HCC : Hid (∀ wx, Bw wb wx → wx.cell? ⟨g, o + (i' + 1), none⟩ = some (.int .i64 ((t : Nat) : Int)) ∧ wx.cell? ⟨g, o + i', none⟩ = some (.int .i64 ((s : Nat) : Int)) ∧ g < wx.heap.size) := by
            intro wx hb
            rcases HIV.out.next hb with h | ⟨g', o', e', hg', h3'⟩
            · omega
            · injection e' with e'
              injection e' with e1' e2'
              subst e1' e2'
              have a1 := h3' (i' + 1) (by omega)
              have a2 := h3' i' (by omega)
              rw [e1] at a1
              rw [e2] at a2
              exact ⟨a1, a2, hg'⟩
          have HIVS : Hid (s < q) := hsq
          clear es hil hi'l hTn h3 hi1 e2 e1
          have HC2 : Hid (∀ wx, Bw wb wx → wx.cell? ⟨g, o + (i' + 1), none⟩ = some (.int .i64 ((t : Nat) : Int)) ∧ wx.cell? ⟨g, o + i', none⟩ = some (.int .i64 ((s : Nat) : Int)) ∧ g < wx.heap.size) := HCC
          clear c2' hIV2
          go_wp2_with fail
          clear c1 c3 c4 HC1 HB hg
          generalize wr.setCell ⟨gi, t, none⟩ (.bool true) = wo at *
          obtain ⟨CR, hCR⟩ : ∃ CR, crw (T.v s) (T.v t) c d n 0 = CR := ⟨_, rfl⟩
          have HCR : Hid (crw (T.v s) (T.v t) c d n 0 = CR) := hCR
          clear hCR
          go_loopw [11, 12] (fun s11 s12 wr => ∃ (k : Nat) (cc : Int), s12 = .int .i64 k ∧ s11 = .int .i64 cc ∧ k ≤ n ∧ Hid (Bw wb wr) ∧ Hid (BA wr gi q (fun k => decide (k ∈ Z.take (i' + 1 + 1)))) ∧ Hid ((cc = 0 ∧ crw (T.v s) (T.v t) c d (n - k) k = CR) ∨ (cc ≠ 0 ∧ cc = CR))) (fun _ s12 _ => n - (intOf s12).toNat)
          case atStart => exact ⟨0, 0, rfl, rfl, Nat.zero_le _, HB2, HA2, .inl ⟨rfl, HCR.out⟩⟩
          case round =>
            clear HB2 HA2
            obtain ⟨k, cc, rfl, rfl, hk, HB2, HA2, HD⟩ := hrel
            by_cases hgo : k < n ∧ cc = 0
            · obtain ⟨hkn, hcc⟩ := hgo
              subst hcc
              have HDZ : Hid (crw (T.v s) (T.v t) c d (n - k) k = CR) := by
                rcases HD.out with h | h
                · exact h.2
                · exact absurd rfl h.1
              clear HD
              have hkn' : (k : Int) < (n : Int) := by omega
              have hk0 : (0 : Int) ≤ (k : Int) := by omega
              obtain ⟨hS, -, hcol⟩ := HCF.out.zero
              have hsT : s < T.q := by rw [HEQ.out]; exact hsq
              have htT : t < T.q := by rw [HEQ.out]; exact htq
              obtain ⟨e1, e2, e3, e4⟩ := hS.col (hcol k hkn) hsT
              obtain ⟨-, f2, f3, -⟩ := hS.col (hcol k hkn) htT
              obtain ⟨u, hu⟩ : ∃ u : Nat, (c k).toNat = u := ⟨_, rfl⟩
              rw [hu] at e3 e4 f3
              have HX : Hid ((c k).toNat = u) := hu
              clear hu
              obtain ⟨x1, x2, hgx⟩ := HC2.out wr HB2.out
              have x1q := fun m os => cell_at hgx x1 m os
              have x2q := fun m os => cell_at hgx x2 m os
              rcases HT.out.next HB2.out with h | ⟨gt, ot, rfl, hgt, h3⟩
              · omega
              have r1 := fun m os => tm_at hgt h3 hsT m os
              have r2 := fun m os => tm_at hgt h3 htT m os
              rcases HK.out.next HB2.out with h | ⟨gk, ok, rfl, hgk, h4⟩
              · omega
              have q1 := fun m os => cell_at hgk (h4 k hkn).1 m os
              have q2 := fun m os => cell_at hgk (h4 k hkn).2 m os
              rw [← e4] at q1 e1 e2 f2
              rcases (h3 s hsT).2 with h | ⟨ga, oa, ea, hga, ha⟩
              · omega
              rcases (h3 t htT).2 with h | ⟨gb, ob, eb, hgb, hb⟩
              · omega
              rw [ea] at r1
              rw [eb] at r2
              have z1 := fun m os => (vm_at hga ha (i := u) e3 m os).1
              have z2 := fun m os => (vm_at hga ha (i := u) e3 m os).2.1
              have z3 := fun m os => (vm_at hga ha (i := u) e3 m os).2.2
              have v1 := fun m os => (vm_at hgb hb (i := u) f3 m os).1
              have v2 := fun m os => (vm_at hgb hb (i := u) f3 m os).2.1
              have v3 := fun m os => (vm_at hgb hb (i := u) f3 m os).2.2
              have hc := fun m os => vcmp_gr (T.v s u) (T.v t u) (grow (wr.drewN m) os)
              have HQ : Hid ((T.v s (c k).toNat).cmp (T.v t (c k).toNat) = (T.v s u).cmp (T.v t u) ∧ -1 ≤ (T.v s u).cmp (T.v t u) ∧ (T.v s u).cmp (T.v t u) ≤ 1) := ⟨by rw [HX.out], Vl.cmp_bd _ _⟩
              have hs0 : (0 : Int) ≤ (s : Int) := by omega
              have hsq' : (s : Int) < (q : Int) := by omega
              clear h3 h4 ha hb hga hgb ea eb hgt hgk hgx e4 x1 x2 hS hcol
              generalize (T.v s u).cmp (T.v t u) = Q at *
              generalize T.v s u = va at *
              generalize T.v t u = vb at *
              obtain ⟨k1, n1', s1⟩ := va
              obtain ⟨k2, n2', s2⟩ := vb
              dsimp only at z1 z2 z3 v1 v2 v3 hc
              obtain ⟨D, hD⟩ : ∃ D, d k = D := ⟨_, rfl⟩
              have HDD : Hid (d k = D) := hD
              rw [hD] at q2
              clear hD
              generalize T.L s = li at *
              generalize T.C s = ci at *
              generalize T.L t = lk at *
              generalize T.C t = ck at *
              go_wp2_with fail
              go_quiet_grown (first | (go_at_call 7; refine Calls.grown_of (hc _ _)))
              have HB3 : Hid (Bw wb (grow (wr.drewN nq) osq)) := HB2.out.tr (Gr.below ⟨nq, osq, rfl⟩)
              have HA3 : Hid (BA (grow (wr.drewN nq) osq) gi q (fun k => decide (k ∈ Z.take (i' + 1 + 1)))) := HA2.out.next (Gr.below ⟨nq, osq, rfl⟩)
              have hd := q2 nq osq
              clear x1q x2q r1 r2 q1 q2 z1 z2 z3 v1 v2 v3 hc HB2 HA2
              generalize grow (wr.drewN nq) osq = w2 at *
              have HST : Hid (crw (T.v s) (T.v t) c d (n - k) k = if sg D Q = 0 then crw (T.v s) (T.v t) c d (n - (k + 1)) (k + 1) else sg D Q) := by
                show _ = _
                rw [show n - k = (n - (k + 1)) + 1 by omega, crw, HDD.out, HQ.out.1]
              have hq3 : Q = -1 ∨ Q = 0 ∨ Q = 1 := by have := HQ.out.2; omega
              have HN : Hid ((sg D Q = 0 ∧ crw (T.v s) (T.v t) c d (n - (k + 1)) (k + 1) = CR) ∨ (sg D Q ≠ 0 ∧ sg D Q = CR)) := by
                have h := HST.out
                rw [HDZ.out] at h
                by_cases hz : sg D Q = 0
                · rw [if_pos hz] at h; exact .inl ⟨hz, h.symm⟩
                · rw [if_neg hz] at h; exact .inr ⟨hz, h.symm⟩
              clear HST HDZ
              rcases hq3 with e | e | e <;> subst e <;> cases D
              all_goals
                go_wp2_with fail
                refine ⟨⟨k + 1, _, by simp, rfl, hkn, HB3, HA3, ?_⟩, by simp [intOf]; omega⟩
                exact HN
            · have hCC : cc = CR := by
                rcases HD.out with h | h
                · have hkn : k = n := by
                    rcases Nat.lt_or_ge k n with h' | h'
                    · exact absurd ⟨h', h.1⟩ hgo
                    · omega
                  rw [h.1, ← h.2, hkn, Nat.sub_self]
                  rfl
                · exact h.2
              have hT2 := HTN.out
              unfold Tn at hT2
              rw [HCR.out, ← hCC] at hT2
              obtain ⟨x1, x2, hgx⟩ := HC2.out wr HB2.out
              have x1q : ∀ m, (wr.drewN m).cell? ⟨g, o + (i' + 1), none⟩ = some (.int .i64 ((t : Nat) : Int)) := fun m => x1
              have x2q : ∀ m, (wr.drewN m).cell? ⟨g, o + i', none⟩ = some (.int .i64 ((s : Nat) : Int)) := fun m => x2
              have HB3 : Hid (∀ m, Bw wb (wr.drewN m)) := fun m => HB2.out.tr (Bw.drewN _ _)
              have HA3 : Hid (∀ m, BA (wr.drewN m) gi q (fun k => decide (k ∈ Z.take (i' + 1 + 1)))) := fun m => HA2.out.drewN m
              have HGO : Hid (¬ (k < n ∧ cc = 0)) := hgo
              clear hCC HD x1 x2 hgx HB2 HA2 hgo
              by_cases hz : cc = 0
              · subst hz
                have hkn : ¬ (k : Int) < (n : Int) := by have := HGO.out; omega
                have hst : ¬ t < s := by omega
                have hst2 : decide (t < s) = false := decide_eq_false hst
                have hst3 : ¬ (t : Int) < (s : Int) := by omega
                clear hT2
                go_wp2_with fail
                go_quiet (fail)
                go_wp2_with fail
                exact ⟨⟨i' + 1 + 1, by simp, by omega, HB3.out _, HA3.out _⟩, by simp [intOf]; omega⟩
              · have hneg : cc < 0 := by omega
                have hc1 : ¬ cc > 0 := by omega
                have hc2 : ¬ 0 < cc := by omega
                have hc3 : decide (cc > 0) = false := decide_eq_false hc1
                have hc4 : decide (0 < cc) = false := decide_eq_false hc2
                have hc5 : (cc == 0) = false := by simp; exact hz
                clear hT2
                by_cases hkn : k < n
                · have hkn' : (k : Int) < (n : Int) := by omega
                  go_wp2_with fail
                  go_quiet (fail)
                  go_wp2_with fail
                  exact ⟨⟨i' + 1 + 1, by simp, by omega, HB3.out _, HA3.out _⟩, by simp [intOf]; omega⟩
                · have hkn' : ¬ (k : Int) < (n : Int) := by omega
                  go_wp2_with fail
                  go_quiet (fail)
                  go_wp2_with fail
                  exact ⟨⟨i' + 1 + 1, by simp, by omega, HB3.out _, HA3.out _⟩, by simp [intOf]; omega⟩
      · have hlt' : ¬ (i : Int) < (q : Int) := by omega
        go_wp2_with fail
        go_meet
        case rel => exact HB
  case rest =>
    have HB2 : Hid (Bw wb wc) := hcut
    apply_assumption
    exact tail26 T p cp p3 n c3 c d q cv pv Z w0 wc HEQ (HT.out.next HB2.out) (HK.out.next HB2.out) HCF HL HZ (HIV.out.next HB2.out) (HB0.out.tr HB2.out) _ _ _ _ _ _ _ _ _ _ _ _ _ _ _ _ _ _ _ _ _ _ _ _ _ _ _ _ _ _ _ _ _ _ _ _ _ _ _ _ _ _ _ _ _ _ _ _ _ _ _ _ _ _ _ _ _ _ _ _ _ _ _ _ _ _ _ _ _ _ _ _ _ _ _ _ _ _ _ _ _ _ _ _ _ _ _ _ _ _ _ _ _ _ _ _ _ _ _ _ _ _ _ _ _ _ _ _ _ _ _ _ _ _ _ _ _ _ _ _ _ _ _ _ _ _ _ _ _ _ _ _ _ _ _ _ _ _ _ _ _ _ _ _ _ _ _ _ _ _ _ _ _ _ _ _ _ _ _ _ _ _ _ _ _ _ _ _ _ _ _ _ _ _ _ _ _ _ _ _ _ _ _ _ _ _ _ _ _ _ _ _ _ _ _ _ _
end Go.Proofs.Ytehamdkjdbaceaa.so
