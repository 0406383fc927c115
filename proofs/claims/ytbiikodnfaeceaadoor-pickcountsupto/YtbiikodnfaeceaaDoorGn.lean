
/- The law PickCounts, from its last part on. Conditions: as each theorem says. -/
import Derived.Test.YtbiikodnfaeceaaDoorGm
import Derived.BigQuiet
import Derived.Laws.StructEq
namespace Go.Proofs.YtbiikodnfaeceaaDoor.so
open Go.RowKit Go.Sort Go.Shelf
def headR : Code → Option Nat
  | .region n _ _ => some n
  | .seq a _ => headR a
  | _ => none
/-- All from a region on, whatever it is bracketed with. -/
def findSeq (n : Nat) : Code → Option Code
  | .seq a b => if headR a = some n then some (.seq a b) else match findSeq n a with
    | some c => some c
    | none => findSeq n b
  | .cond _ a b => match findSeq n a with
    | some c => some c
    | none => findSeq n b
  | .loop c => findSeq n c
  | .block _ c => findSeq n c
  | .scope c => findSeq n c
  | _ => none
theorem eqInV (k n : Int) (s : ByteArray) (k' n' : Int) (s' : ByteArray) (W : World) : (Op.equalIn 10000 30 (V k n s) (V k' n' s')).run Tryd.prog W = .ok (k == k' && n == n' && s.toList == s'.toList) W := by
  have hS : Tryd.prog.underlying 30 = some (.struct (Tryd.prog.fieldsOf 30)) := by kernel_rfl
  have hp : Tryd.prog.stoodInHeld 30 = false := by kernel_rfl
  rw [run_equalIn_struct W 9999 30 _ _ hS hp]
  simp only [Program.fieldsOf, Tryd.underlying30]
  by_cases h1 : k = k' <;> by_cases h2 : n = n' <;> by_cases h3 : s.toList = s'.toList <;> simp [Op.eqFields, go_sem, h1, h2, h3]
theorem eqlV (k n : Int) (s : ByteArray) (k' n' : Int) (s' : ByteArray) (W : World) : (binOp BinOp.eql 30 (V k n s) (V k' n' s')).run Tryd.prog W = .ok (.bool (k == k' && n == n' && s.toList == s'.toList)) W := by
  rw [run_eql_struct, eqInV]; rfl
theorem neqV (k n : Int) (s : ByteArray) (k' n' : Int) (s' : ByteArray) (W : World) : (binOp BinOp.neq 30 (V k n s) (V k' n' s')).run Tryd.prog W = .ok (.bool (!(k == k' && n == n' && s.toList == s'.toList))) W := by
  rw [run_neq_struct, eqInV]; rfl
theorem guardV : Tryd.prog.eqGuardType Tryd.prog.depth 30 = false := by kernel_rfl
/-- Groups as memory has them. -/
theorem GS.gm {T : Tb} {n : Nat} {c : Nat → Int} {k : Nat} {w : World} {v : Value} {gs : List Gp} {wx : World} (h : GS T n c k w v gs wx) (hl : 0 < gs.length) : ∃ g cc, v = .slice (some ⟨g, 0, none⟩) gs.length cc ∧ g < wx.heap.size ∧ ∀ i x, gs[i]? = some x → ∀ j, j < 5 → wx.cell? ⟨g, i * 5 + j, none⟩ = (g5 T n k x)[j]? := by
  rcases h.own.2 with ⟨rfl, h0⟩ | ⟨g, cap, cur, rfl, hb, hg, hc, hm, hz, ht⟩
  · omega
  · refine ⟨g, cap, rfl, (Array.getElem?_eq_some_iff.1 hg).1, fun i x hx j hj => ?_⟩
    have hi : i < gs.length := (List.getElem?_eq_some_iff.1 hx).1
    have e : (cur.toList.take (gs.length * 5))[i * 5 + j]? = (grps T n k gs)[i * 5 + j]? := by rw [ht]
    rw [List.getElem?_take, if_pos (by omega), Array.getElem?_toList, grps_at hx j hj] at e
    simp only [World.cell?, hg]
    exact e
noncomputable def tail24C : Code := ((Tryd.f3.body.bind (findSeq 24)).getD .skip)
set_option maxRecDepth 1000000 in
set_option maxHeartbeats 16000000 in
theorem tail24 (T : Tb) (p : Option Addr) (cp q k bS : Nat) (Z : List Nat) (ps : List (List Nat)) (w0 w : World) (HEQ : Hid (T.q = q)) (HT : Hid (TM w p T)) (HS : Hid (Snd T)) (HX : Hid (colOk T (k : Int))) (H64 : Hid (∀ i, i < T.q → ∀ j, j < T.L i → B64 (T.v i j).n)) (HZ : Hid (Z.Perm (List.range T.q))) (HF : Hid (ps.flatten = Z)) (HSM : Hid (w.heap[bS]? = some (.cells #[.int .i64 (fS T k ps).k, .int .i64 (fS T k ps).n, .string (fS T k ps).s] 30 (0, 0)))) (HB0 : Hid (Bw w0 w))
    (l1 l3 l4 l5 l6 l7 l8 l9 l10 l13 l14 l15 l16 l17 l18 l19 l20 l21 l22 l23 l24 l25 l26 l27 l28 l29 l30 l31 l32 l33 l34 l35 l36 l37 l38 l39 l40 l41 l42 l43 l44 l45 l46 l47 l48 l49 l50 l51 l52 l53 l54 l55 l56 l57 l58 l59 l60 l61 l62 l63 l64 l65 l66 l67 l68 l69 l70 l71 l72 l73 l74 l75 l76 l77 l78 l79 l80 l81 l82 l83 l84 l85 l86 l87 l88 l89 l90 l91 l92 l93 l94 l95 l96 l97 l98 l99 l100 l101 l102 l103 l104 l105 l106 l107 l108 l109 l110 l111 l112 l113 l114 l115 l116 l117 l118 l119 l120 l121 l122 l123 l124 l125 l126 l127 l128 l129 l130 l131 l132 l133 l134 l135 l136 l137 l138 l139 l140 l141 l142 l143 l144 l145 l146 l147 l148 l149 l150 l151 l152 l153 l154 l155 l156 l157 l158 l159 l160 l161 l162 l163 l164 l165 l166 l167 l168 l169 l170 l171 l172 l173 l174 : Value) :
    Code.wp Tryd.prog tail24C (bodyPost Tryd.prog Tryd.f3 fun e w' => e = .returned (.bool true) ∧ Bw w0 w') ⟨#[.slice p q cp, l1, .int .i64 (k : Int), l3, l4, l5, l6, l7, l8, l9, l10, .int .i64 (q : Int), .pointer (some ⟨bS, 0, none⟩), l13, l14, l15, l16, l17, l18, l19, l20, l21, l22, l23, l24, l25, l26, l27, l28, l29, l30, l31, l32, l33, l34, l35, l36, l37, l38, l39, l40, l41, l42, l43, l44, l45, l46, l47, l48, l49, l50, l51, l52, l53, l54, l55, l56, l57, l58, l59, l60, l61, l62, l63, l64, l65, l66, l67, l68, l69, l70, l71, l72, l73, l74, l75, l76, l77, l78, l79, l80, l81, l82, l83, l84, l85, l86, l87, l88, l89, l90, l91, l92, l93, l94, l95, l96, l97, l98, l99, l100, l101, l102, l103, l104, l105, l106, l107, l108, l109, l110, l111, l112, l113, l114, l115, l116, l117, l118, l119, l120, l121, l122, l123, l124, l125, l126, l127, l128, l129, l130, l131, l132, l133, l134, l135, l136, l137, l138, l139, l140, l141, l142, l143, l144, l145, l146, l147, l148, l149, l150, l151, l152, l153, l154, l155, l156, l157, l158, l159, l160, l161, l162, l163, l164, l165, l166, l167, l168, l169, l170, l171, l172, l173, l174], []⟩ w := by
  dsimp only
  conv => arg 2; whnf
  have hq60 : q ≤ 60 := by rw [← HEQ.out]; exact HS.out.few
  have HG := group_any T p cp none 0 0 (fun _ => 0) (k : Int) w HT.out (.inl rfl) (by rw [HEQ.out]; omega) (by omega) (fun i hi => by have := HS.out.thin i hi; omega) H64.out
  rw [HEQ.out] at HG
  have hkL : 0 < q → k < T.L 0 := fun h => by
    have := (HS.out.col HX.out (i := 0) (by rw [HEQ.out]; exact h)).2.2.1
    simpa using this
  have HK64 : Hid (∀ i, i < T.q → B64 (T.v i k).n) := fun i hi => H64.out i hi k (by
    have := (HS.out.col HX.out hi).2.2.1
    simpa using this)
  clear hkL
  go_wp2_with fail
  refine HG.mono ?_
  clear HG
  rintro e w1 ⟨⟨er, v, rfl, hgf, -, hyes⟩, hb⟩
  have her : er = 0 := hgf.one (.inr ⟨.inr ⟨.inr (.inr (.inr (.inr ⟨rfl, HS.out⟩))), .inr (.inr ⟨rfl, by omega, fun i hi => absurd hi (Nat.not_lt_zero _)⟩)⟩, .inr ⟨rfl, HX.out⟩⟩)
  subst her
  obtain ⟨W, Z', gs', hbW, hst, hpt, hgs⟩ := hyes rfl
  rw [Int.toNat_natCast] at hgs
  have HB1 : Hid (Bw w0 w1) := HB0.out.tr hb
  have hsm := bk HSM.out hb
  rw [errV_0]
  clear hgf hyes hb hbW
  have HST : Hid (Z'.Perm (List.range T.q)) := hst.1
  have hlenZ : Z'.length = q := by rw [← HEQ.out, hst.1.length_eq]; simp
  clear hst
  by_cases h0 : q = 0
  · subst h0
    obtain ⟨pg, cg, rfl⟩ := hgs.form
    clear hgs hpt hsm
    generalize gs'.length = gl at *
    go_upto_region 29 with fail
    go_quiet (fail)
    go_wp2_with fail
    go_ret
    exact ⟨rfl, HB1.out.tr (drewN_bw w1 nq)⟩
  · have hq0 : (0 : Int) < (q : Int) := by omega
    have hqe : ((q : Int) == 0) = false := by simp; omega
    have hqg : decide ((q : Int) > 0) = true := by simp; omega
    have hps := hpt.none (by omega)
    obtain ⟨g0, rfl⟩ : ∃ g0, gs' = [g0] := by
      match gs', hps with
      | [g0], _ => exact ⟨g0, rfl⟩
    have hgp : g0.pt = Z' := by simpa using hps
    obtain ⟨gb, cc, rfl, hgl, hcl⟩ := hgs.gm (by simp)
    have y0 := hcl 0 g0 rfl 2 (by omega)
    have y1 := hcl 0 g0 rfl 3 (by omega)
    have y2 := hcl 0 g0 rfl 4 (by omega)
    simp only [g5, List.getElem?_cons_succ, List.getElem?_cons_zero, Nat.zero_mul, Nat.zero_add, hgp] at y0 y1 y2
    have HSS : Hid ((fS T k ps).k = 1 → (gsum T k Z').k = 1 → gsum T k Z' = fS T k ps) := fun h1 h2 => sums_same HK64.out HZ.out HST.out HF.out h1 h2
    obtain ⟨⟨o0, o1, o2⟩, -, -, -⟩ := cells3 hsm
    obtain ⟨r, hr⟩ : ∃ r, gsum T k Z' = r := ⟨_, rfl⟩
    obtain ⟨s, hs⟩ : ∃ s, fS T k ps = s := ⟨_, rfl⟩
    rw [hr] at y0 y1 y2 HSS
    rw [hs] at o0 o1 o2 HSS
    clear hr hs
    obtain ⟨rk, rn, rs⟩ := r
    obtain ⟨sk, sn, ss⟩ := s
    dsimp only at y0 y1 y2 HSS o0 o1 o2
    have hgv := guardV
    clear hcl hgs hpt hps hsm HSM hgp
    simp only [List.length_cons, List.length_nil, Nat.zero_add]
    go_upto_region 29 with fail
    by_cases h1 : sk = 1
    · subst h1
      by_cases h2 : rk = 1
      · subst h2
        have e := HSS.out rfl rfl
        injection e with e1 e2 e3
        subst e2
        subst e3
        have hq := fun W => eqlV 1 rn rs 1 rn rs W
        simp only [beq_self_eq_true, Bool.and_self] at hq
        go_quiet (fail)
        go_wp2_with fail
        go_ret
        exact ⟨rfl, HB1.out.tr (drewN_bw w1 nq)⟩
      · have h2' : (rk != 1) = true := by simp; exact h2
        have h2b : (rk == 1) = false := by simp; exact h2
        clear HSS
        go_quiet (fail)
        go_wp2_with fail
        go_ret
        exact ⟨rfl, HB1.out.tr (drewN_bw w1 nq)⟩
    · have h1' : (sk != 1) = true := by simp; exact h1
      have h1b : (sk == 1) = false := by simp; exact h1
      clear HSS
      go_quiet (fail)
      go_wp2_with fail
      go_ret
      exact ⟨rfl, HB1.out.tr (drewN_bw w1 nq)⟩
end Go.Proofs.YtbiikodnfaeceaaDoor.so
