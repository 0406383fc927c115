/- The law PastPlays: what is told of some texts, and the list of sheets behind it. Conditions: as each theorem says. -/
import Derived.Test.YtcekgefkimbfaaaGreatDoorJl
import Derived.Test.YtcekgefkimbfaaaGreatDoorAs
namespace Go.Proofs.YtcekgefkimbfaaaGreatDoor.ps
open Go.RowKit
open adr (C isC)
structure RJ (w0 : World) (bp i : Nat) (A : List (List Fl)) (k : Nat) (vA : Value) (st : List St) (x : List Fl) (vn vs : Value) (vals : List Value) (w : World) : Prop where
  pl : PL A st
  here : A[k]? = some x
  ps : PS w bp x st k vn vs
  al : AL w0 A vA vals w
  le : A.length ≤ i
  below : Below w0.heap.size w0 w
theorem RJ.ri {w0 : World} {bp i : Nat} {A : List (List Fl)} {k : Nat} {vA : Value} {st : List St} {x : List Fl} {vn vs : Value} {vals : List Value} {w : World} (h : RJ w0 bp i A k vA st x vn vs vals w) : RI w0 bp (i + 1) A k vA w := ⟨st, x, vn, vs, vals, h.pl, h.here, h.ps, h.al, Nat.le_succ_of_le h.le, h.below⟩
theorem RJ.next {w0 : World} {bp i : Nat} {A : List (List Fl)} {k : Nat} {vA : Value} {st : List St} {x : List Fl} {vn vs : Value} {vals : List Value} {w w' : World} (h : RJ w0 bp i A k vA st x vn vs vals w) (hb : Below w.heap.size w w') : RJ w0 bp i A k vA st x vn vs vals w' := ⟨h.pl, h.here, h.ps.next hb, h.al.next hb, h.le, bnext h.below hb h.below.size⟩
theorem RJ.sh {w0 : World} {bp i : Nat} {A : List (List Fl)} {k : Nat} {vA : Value} {st : List St} {x : List Fl} {vn vs : Value} {vals : List Value} {w : World} (h : RJ w0 bp i A k vA st x vn vs vals w) : Sh x ∧ x.length ≤ 200 := h.pl.each x (List.mem_of_getElem? h.here)
theorem RJ.kst {w0 : World} {bp i : Nat} {A : List (List Fl)} {k : Nat} {vA : Value} {st : List St} {x : List Fl} {vn vs : Value} {vals : List Value} {w : World} (h : RJ w0 bp i A k vA st x vn vs vals w) : k ≤ st.length ∧ st.length < i := by
  have h1 := (List.getElem?_eq_some_iff.1 h.here).1
  have h2 := h.pl.len
  have h3 := h.le
  omega
theorem rj_group {w0 : World} {bp i : Nat} {A : List (List Fl)} {k : Nat} {vA : Value} {st : List St} {x : List Fl} {vn vs : Value} {vals : List Value} {w : World} (h : RJ w0 bp i A k vA st x vn vs vals w) (hi : i ≤ 100) (hE : EnvP w0) {p : Option Addr} {c : Nat} {l : List Fl} (hl : FM w p l) (hM : l.length ≤ 4398046511104) (hc : p = none → c = 0) :
    Calls Tryz.prog 15 #[.pointer (some ⟨bp, 0, none⟩), .slice p l.length c] w fun e w' => ∃ t, e = .returned (errV t) ∧ KP bp w w' ∧ GO bp x st k l vn vs t w' :=
  group_any bp x st k h.kst.1 vn vs p c l w h.ps (by have := h.kst; omega) h.sh.2 h.sh.1.srt hl hM hc (hE.below h.below hE.size)
theorem rj_set {w0 : World} {bp i : Nat} {A : List (List Fl)} {k : Nat} {vA : Value} {st : List St} {x : List Fl} {vn vs : Value} {vals : List Value} {w : World} (h : RJ w0 bp i A k vA st x vn vs vals w) (hi : i ≤ 100) (hE : EnvP w0) (f : Fl) :
    Calls Tryz.prog 14 #[.pointer (some ⟨bp, 0, none⟩), C f.c f.r, .string f.s] w fun e w' => ∃ v t, e = .returned v ∧ v = errV t ∧ KP bp w w' ∧ GO bp x st k [f] vn vs t w' :=
  set_any bp x st k h.kst.1 vn vs f w h.ps (by have := h.kst; omega) h.sh.2 h.sh.1.srt (hE.below h.below hE.size)
/-- What is so behind it. -/
theorem rj_after {w0 : World} {bp i : Nat} {A : List (List Fl)} {k : Nat} {vA : Value} {st : List St} {x : List Fl} {vn vs : Value} {vals : List Value} {w w' : World} (h : RJ w0 bp i A k vA st x vn vs vals w) (hbp : w0.heap.size ≤ bp) (hk : KP bp w w') {l Z : List Fl} {t e : Int} {j : Nat} (hg : GO bp x st k l vn vs t w') (hr : RE l x j e Z) (hj : e ≠ 0 ∨ j = l.length) :
    eF e Z.length = t ∧ (((t ≠ 0 ∨ Z = x) ∧ RJ w0 bp i A k vA st x vn vs vals w') ∨ (t = 0 ∧ Z ≠ x ∧ ∃ st' vn' vs', PL (A.take (k + 1) ++ [Z]) st' ∧ PS w' bp Z st' (k + 1) vn' vs' ∧ AL w0 A vA vals w' ∧ Below w0.heap.size w0 w')) := by
  have hS := h.sh
  have hB : Below w0.heap.size w0 w' := h.below.trans (hk.below.mono hbp)
  rcases hg.play hS.1 hS.2 with ⟨h0, h1, h2⟩ | ⟨h0, h1, h2, h3⟩
  · have ht := hr.told hj (.inl ⟨h0, h2⟩)
    exact ⟨ht.1, .inl ⟨.inl h0, ⟨h.pl, h.here, h1, h.al.kp hk, h.le, hB⟩⟩⟩
  · have ht := hr.told hj (.inr ⟨h0, h1, h2⟩)
    have hz := ht.2 h0
    rcases h3 with ⟨h4, h5⟩ | ⟨h4, s, vn', vs', h5, h6⟩
    · exact ⟨ht.1, .inl ⟨.inr (hz.trans h4), ⟨h.pl, h.here, h5, h.al.kp hk, h.le, hB⟩⟩⟩
    · rw [← hz] at h2 h4 h5 h6
      refine ⟨ht.1, .inr ⟨h0, h4, st.take k ++ [s], vn', vs', h.pl.push h.here ⟨?_, h2⟩ h6, h5, h.al.kp hk, hB⟩⟩
      rw [hz]
      exact hS.1.fold h1
theorem told_same (e : Int) (w : World) (hT : ErrTy w) : Calls Tryz.prog 8 #[errV e, .int .i64 e] w fun r w' => r = .returned (.bool true) ∧ Below w.heap.size w w' := by
  by_cases h : e = 0
  · subst h
    exact (same_nil 0 w).mono (fun r w' ⟨h1, h2⟩ => ⟨h1, h2⟩)
  · rw [errV_some h]
    exact (same_errno e e w hT).mono (fun r w' ⟨h1, h2⟩ => ⟨by rw [h1]; simp, h2⟩)
theorem shN {w : World} {p q : Option Addr} {c d : Nat} {xs ys : List Fl} (h1 : FM w p xs) (h2 : FM w q ys) (hl : xs.length ≤ 100000) (hl2 : ys.length ≤ 100000) (hn : xs ≠ ys) : Calls Tryz.prog 16 #[.slice p xs.length c, .slice q ys.length d] w fun e w' => e = .returned (.bool false) ∧ Below w.heap.size w w' :=
  (sheets_any p q c d xs ys w h1 h2 hl hl2).mono (fun e w' ⟨⟨b, e1, e2⟩, e3⟩ => ⟨by cases b with
    | true => exact absurd (e2.1 rfl) hn
    | false => exact e1, e3⟩)
theorem fb_nil {w : World} {p : Option Addr} {n c : Nat} {xs : List Fl} (h : FB w (.slice p n c) xs) : p = none → c = 0 := by
  obtain ⟨p', c', e, -, -, h3⟩ := h.full
  injection e with e1 _ e3
  subst e1 e3
  exact h3
abbrev YK (w : World) (bp g o : Nat) (f : Fl) (wx : World) : Prop := wx.cell? ⟨g, o, none⟩ = some (.int .i64 f.c) ∧ wx.cell? ⟨g, o + 1, none⟩ = some (.int .i64 f.r) ∧ wx.cell? ⟨g, o + 2, none⟩ = some (.string f.s) ∧ KP bp w wx
abbrev YC (w : World) (g o : Nat) (f : Fl) (wx : World) : Prop := wx.cell? ⟨g, o, none⟩ = some (.int .i64 f.c) ∧ wx.cell? ⟨g, o + 1, none⟩ = some (.int .i64 f.r) ∧ wx.cell? ⟨g, o + 2, none⟩ = some (.string f.s) ∧ Below w.heap.size w wx
def headR : Code → Option Nat
  | .region m _ _ => some m
  | .seq a _ => headR a
  | _ => none
/-- All from a region on, whatever it is bracketed with. -/
def findSeq (n : Nat) : Code → Option Code
  | .seq a b => if headR a = some n then some (.seq a b) else match findSeq n a with
    | some c => some c
    | none => findSeq n b
  | .cond _ a b => match findSeq n a with
    | some c => some c
    | none => findSeq n b
  | .loop c => findSeq n c
  | .block _ c => findSeq n c
  | .scope c => findSeq n c
  | _ => none
noncomputable def tail28C : Code := ((Tryz.f3.body.bind (findSeq 28)).getD .skip)
def findIf (n : Nat) : Code → Option Code
  | .cond (.tmp m) a b => if m = n then some (.cond (.tmp m) a b) else match findIf n a with
    | some c => some c
    | none => findIf n b
  | .cond _ a b => match findIf n a with
    | some c => some c
    | none => findIf n b
  | .seq a b => match findIf n a with
    | some c => some c
    | none => findIf n b
  | .loop c => findIf n c
  | .block _ c => findIf n c
  | .scope c => findIf n c
  | _ => none
noncomputable def tailPC : Code := ((Tryz.f3.body.bind (findIf 164)).getD .skip)
set_option maxRecDepth 1000000 in
set_option maxHeartbeats 8000000 in
theorem tailP (Q : Exit → Act → World → Prop) (w0 : World) (bp i : Nat) (A : List (List Fl)) (k ga ca N : Nat) (HB : Hid (w0.heap.size ≤ bp ∧ i ≤ 99 ∧ A.length = N)) (hN : (N : Int) ≤ 100) (hkN : (k : Int) < (N : Int)) (hk0 : (0 : Int) ≤ (k : Int)) (hNc : (N : Int) ≤ (ca : Int)) (vals : List Value) (Z : List Fl) (nz : Nat) (pz : Option Addr) (cz : Nat) (w : World)
    (HJ : Hid (∃ st' vn' vs', PL (A.take (k + 1) ++ [Z]) st' ∧ PS w bp Z st' (k + 1) vn' vs' ∧ AL w0 A (.slice (some ⟨ga, 0, none⟩) N ca) vals w ∧ Below w0.heap.size w0 w)) (HL : Hid (A.length ≤ i))
    (HZ : Hid ((FM w0 pz Z ∨ FB w (.slice pz nz cz) Z) ∧ Z.length = nz))
    (l0 l1 l2 l3 l4 l5 l6 l7 l9 l10 l13 l14 l15 l16 l17 l19 l20 l21 l22 l23 l24 l25 l26 l27 l28 l29 l30 l31 l32 l33 l34 l35 l36 l37 l38 l39 l40 l41 l42 l43 l44 l45 l46 l47 l48 l49 l50 l51 l52 l53 l54 l55 l56 l57 l58 l59 l60 l61 l62 l63 l64 l65 l66 l67 l68 l69 l70 l71 l72 l73 l74 l75 l76 l77 l78 l79 l80 l81 l82 l83 l84 l85 l86 l87 l88 l89 l90 l91 l92 l93 l94 l95 l96 l97 l98 l99 l100 l101 l102 l103 l104 l105 l106 l107 l108 l109 l110 l111 l112 l113 l114 l115 l116 l117 l118 l119 l120 l121 l122 l123 l124 l125 l126 l127 l128 l129 l130 l131 l132 l133 l134 l135 l136 l137 l138 l139 l140 l141 l142 l143 l144 l145 l146 l147 l148 l149 l150 l151 l152 l153 l154 l155 l156 l157 l158 l159 l160 l161 l162 l163 l165 l166 l167 l168 l169 l170 l171 l172 l173 l174 l175 l176 l177 l178 l179 l180 l181 l182 l183 l184 l185 l186 l187 l188 l189 l190 l191 l192 l193 l194 l195 l196 l197 l198 l199 l200 l201 l202 l203 l204 l205 l206 l207 l208 l209 l210 l211 l212 l213 l214 l215 l216 l217 l218 l219 l220 l221 l222 l223 l224 l225 l226 l227 l228 l229 l230 l231 l232 l233 l234 : Value)
    (HQ : Hid (∀ (m22 m46 m47 m48 m49 m50 m51 m52 m53 m54 m55 m56 m57 m58 m60 m61 m62 m63 m64 m65 m66 m67 m68 m69 m70 m71 m72 m73 m74 m75 m76 m77 m78 m79 m80 m81 m82 m83 m84 m85 m86 m87 m88 m89 m90 m91 m92 m93 m94 m95 m96 m97 m98 m99 m100 m101 m102 m103 m104 m105 m106 m107 m108 m109 m110 m111 m112 m113 m114 m115 m116 m117 m118 m119 m120 m121 m122 m123 m124 m125 m126 m127 m128 m129 m130 m131 m132 m133 m134 m135 m136 m137 m138 m139 m140 m141 m142 m143 m144 m145 m146 m147 m148 m149 m150 m151 m152 m153 m154 m155 m156 m157 m158 m159 m160 m161 m162 m163 m164 m165 m166 m167 m168 m169 m170 m171 m172 m173 m174 m175 m176 m177 m178 m179 m180 m181 m182 m183 m184 m185 m186 m187 m188 m189 m190 m191 m192 m193 m194 m195 m196 m197 m198 m199 m200 m201 m202 m203 m204 m205 m206 m207 m208 m209 m210 m211 m212 m213 m214 m215 m216 m217 m218 m219 m220 m221 m222 m223 m224 m225 m226 m227 m228 m229 m230 m231 m232 m233 m234 : Value) (A' : List (List Fl)) (vA' : Value) (w' : World), RI w0 bp (i + 1) A' (k + 1) vA' w' → Q .normal ⟨#[l0, l1, l2, l3, l4, l5, l6, l7, .pointer (some ⟨bp, 0, none⟩), l9, l10, vA', .int .i64 ((k : Int) + 1), l13, l14, l15, l16, l17, .slice pz nz cz, l19, l20, l21, m22, l23, l24, l25, l26, l27, l28, l29, l30, l31, l32, l33, l34, l35, l36, l37, l38, l39, l40, l41, l42, l43, l44, l45, m46, m47, m48, m49, m50, m51, m52, m53, m54, m55, m56, m57, m58, l59, m60, m61, m62, m63, m64, m65, m66, m67, m68, m69, m70, m71, m72, m73, m74, m75, m76, m77, m78, m79, m80, m81, m82, m83, m84, m85, m86, m87, m88, m89, m90, m91, m92, m93, m94, m95, m96, m97, m98, m99, m100, m101, m102, m103, m104, m105, m106, m107, m108, m109, m110, m111, m112, m113, m114, m115, m116, m117, m118, m119, m120, m121, m122, m123, m124, m125, m126, m127, m128, m129, m130, m131, m132, m133, m134, m135, m136, m137, m138, m139, m140, m141, m142, m143, m144, m145, m146, m147, m148, m149, m150, m151, m152, m153, m154, m155, m156, m157, m158, m159, m160, m161, m162, m163, m164, m165, m166, m167, m168, m169, m170, m171, m172, m173, m174, m175, m176, m177, m178, m179, m180, m181, m182, m183, m184, m185, m186, m187, m188, m189, m190, m191, m192, m193, m194, m195, m196, m197, m198, m199, m200, m201, m202, m203, m204, m205, m206, m207, m208, m209, m210, m211, m212, m213, m214, m215, m216, m217, m218, m219, m220, m221, m222, m223, m224, m225, m226, m227, m228, m229, m230, m231, m232, m233, m234], []⟩ w')) :
    Code.wp Tryz.prog tailPC Q ⟨#[l0, l1, l2, l3, l4, l5, l6, l7, .pointer (some ⟨bp, 0, none⟩), l9, l10, .slice (some ⟨ga, 0, none⟩) N ca, .int .i64 (k : Int), l13, l14, l15, l16, l17, .slice pz nz cz, l19, l20, l21, l22, l23, l24, l25, l26, l27, l28, l29, l30, l31, l32, l33, l34, l35, l36, l37, l38, l39, l40, l41, l42, l43, l44, l45, l46, l47, l48, l49, l50, l51, l52, l53, l54, l55, l56, l57, l58, l59, l60, l61, l62, l63, l64, l65, l66, l67, l68, l69, l70, l71, l72, l73, l74, l75, l76, l77, l78, l79, l80, l81, l82, l83, l84, l85, l86, l87, l88, l89, l90, l91, l92, l93, l94, l95, l96, l97, l98, l99, l100, l101, l102, l103, l104, l105, l106, l107, l108, l109, l110, l111, l112, l113, l114, l115, l116, l117, l118, l119, l120, l121, l122, l123, l124, l125, l126, l127, l128, l129, l130, l131, l132, l133, l134, l135, l136, l137, l138, l139, l140, l141, l142, l143, l144, l145, l146, l147, l148, l149, l150, l151, l152, l153, l154, l155, l156, l157, l158, l159, l160, l161, l162, l163, .bool true, l165, l166, l167, l168, l169, l170, l171, l172, l173, l174, l175, l176, l177, l178, l179, l180, l181, l182, l183, l184, l185, l186, l187, l188, l189, l190, l191, l192, l193, l194, l195, l196, l197, l198, l199, l200, l201, l202, l203, l204, l205, l206, l207, l208, l209, l210, l211, l212, l213, l214, l215, l216, l217, l218, l219, l220, l221, l222, l223, l224, l225, l226, l227, l228, l229, l230, l231, l232, l233, l234], []⟩ w := by
  have _h0 := HB; have _h1 := hN; have _h2 := hkN; have _h3 := hk0; have _h4 := hNc
  clear _h0 _h1 _h2 _h3 _h4
  dsimp only at HQ ⊢
  conv => arg 2; whnf
  let BPX := bodyPost Tryz.prog Tryz.f3 (fun _ _ => True)
  obtain ⟨st', vn', vs', hpl, hps, hal, hB⟩ := HJ.out
  have hkA : k < A.length := by rw [HB.out.2.2]; omega
  obtain ⟨g1, c1, w1, hr1, g2, c2, w2, hr2, hal2, hb2⟩ := hal.push hB hkA (by have := HL.out; have := HB.out; omega) (by have := HZ.out.1; rw [← HZ.out.2] at this; exact this)
  rw [HZ.out.2] at hr2
  have HR1 : Hid ((Builtin.append_ #[31, 31] 31 #[.slice none 0 0, .slice (some ⟨ga, 0, none⟩) (k + 1) ca]).run Tryz.prog w = .ok (.slice (some ⟨g1, 0, none⟩) (k + 1) c1) w1) := hr1
  have HR2 : Hid ((Builtin.append_ #[31, 31] 31 #[.slice (some ⟨g1, 0, none⟩) (k + 1) c1, .slice (some ⟨w1.heap.size, 0, none⟩) 1 1]).run Tryz.prog (w1.alloc (.cells #[.slice pz nz cz] 22)) = .ok (.slice (some ⟨g2, 0, none⟩) (k + 2) c2) w2) := hr2
  have HRI : Hid (RI w0 bp (i + 1) (A.take (k + 1) ++ [Z]) (k + 1) (.slice (some ⟨g2, 0, none⟩) (k + 2) c2) w2) := ⟨st', Z, vn', vs', _, hpl, by
    have e0 : k + 1 - (A.take (k + 1)).length = 0 := by simp; omega
    rw [List.getElem?_append_right (by simp; omega), e0]
    rfl, hps.next hb2, hal2, by have := HL.out; simp; omega, bnext hB hb2 hB.size⟩
  clear hpl hps hal hB hr1 hr2 hal2 hb2 hkA HJ
  have hk1 : (k : Int) + 1 ≤ (ca : Int) := by omega
  go_upto_region 40 with fail
  go_cut [22] (fun s22 wx => s22 = .slice (some ⟨g1, 0, none⟩) (k + 1) c1 ∧ wx = w1)
  case first =>
    clear HQ HR2
    go_wp2_with (first | (at_builtin; refine fm.wpList_append_eq rfl _ _ 31 rfl _ _ _ _ rfl rfl HR1.out ?_))
    go_meet
    case rel => exact ⟨rfl, rfl⟩
  case rest =>
  obtain ⟨rfl, rfl⟩ := hcut
  clear HR1
  go_wp2_with (first | (at_builtin; refine fm.wpList_append_eq rfl _ _ 31 rfl _ _ _ _ rfl rfl HR2.out ?_))
  exact HQ.out _ _ _ _ _ _ _ _ _ _ _ _ _ _ _ _ _ _ _ _ _ _ _ _ _ _ _ _ _ _ _ _ _ _ _ _ _ _ _ _ _ _ _ _ _ _ _ _ _ _ _ _ _ _ _ _ _ _ _ _ _ _ _ _ _ _ _ _ _ _ _ _ _ _ _ _ _ _ _ _ _ _ _ _ _ _ _ _ _ _ _ _ _ _ _ _ _ _ _ _ _ _ _ _ _ _ _ _ _ _ _ _ _ _ _ _ _ _ _ _ _ _ _ _ _ _ _ _ _ _ _ _ _ _ _ _ _ _ _ _ _ _ _ _ _ _ _ _ _ _ _ _ _ _ _ _ _ _ _ _ _ _ _ _ _ _ _ _ _ _ _ _ _ _ _ _ _ _ _ _ _ _ _ _ _ _ _ _ _ _ _ w2 HRI.out
end Go.Proofs.YtcekgefkimbfaaaGreatDoor.ps
/- The law PastPlays: what is told of some texts. Conditions: as each theorem says. -/
namespace Go.Proofs.YtcekgefkimbfaaaGreatDoor.ps
open Go.RowKit
open adr (C isC)
set_option maxRecDepth 1000000 in
set_option maxHeartbeats 8000000 in
theorem tail28 (Q : Exit → Act → World → Prop) (w0 : World) (bp i : Nat) (A : List (List Fl)) (k ga ca N : Nat) (HB : Hid (w0.heap.size ≤ bp ∧ i ≤ 99 ∧ A.length = N)) (hN : (N : Int) ≤ 100) (hkN : (k : Int) < (N : Int)) (hk0 : (0 : Int) ≤ (k : Int)) (hNc : (N : Int) ≤ (ca : Int)) (st : List St) (x : List Fl) (vn vs : Value) (vals : List Value) (l : List Fl) (M : Nat) (ps : Option Addr) (cs : Nat) (Z : List Fl) (nz : Nat) (pz : Option Addr) (cz j : Nat) (e : Int) (HE : Hid (EnvP w0 ∧ ErrTy w0)) (w : World)
    (HJ : Hid (RJ w0 bp i A k (.slice (some ⟨ga, 0, none⟩) N ca) st x vn vs vals w)) (HL : Hid (FB w (.slice ps M cs) l ∧ l.length = M)) (hM : (M : Int) ≤ 4398046511104) (HZ : Hid ((FM w0 pz Z ∨ FB w (.slice pz nz cz) Z) ∧ Z.length = nz ∧ RE l x j e Z ∧ (e ≠ 0 ∨ j = M))) (hnz : (nz : Int) ≤ 2600)
    (l0 l1 l2 l3 l4 l5 l6 l9 l10 l13 l14 l15 l16 l19 l20 l21 l22 l23 l24 l25 l26 l27 l28 l29 l30 l31 l32 l33 l34 l35 l36 l37 l38 l39 l40 l41 l42 l43 l44 l45 l46 l47 l48 l49 l50 l51 l52 l53 l54 l55 l56 l57 l58 l59 l60 l61 l62 l63 l64 l65 l66 l67 l68 l69 l70 l71 l72 l73 l74 l75 l76 l77 l78 l79 l80 l81 l82 l83 l84 l85 l86 l87 l88 l89 l90 l91 l92 l93 l94 l95 l96 l97 l98 l99 l100 l101 l102 l103 l104 l105 l106 l107 l108 l109 l110 l111 l112 l113 l114 l115 l116 l117 l118 l119 l120 l121 l122 l123 l124 l125 l126 l127 l128 l129 l130 l131 l132 l133 l134 l135 l136 l137 l138 l139 l140 l141 l142 l143 l144 l145 l146 l147 l148 l149 l150 l151 l152 l153 l154 l155 l156 l157 l158 l159 l160 l161 l162 l163 l164 l165 l166 l167 l168 l169 l170 l171 l172 l173 l174 l175 l176 l177 l178 l179 l180 l181 l182 l183 l184 l185 l186 l187 l188 l189 l190 l191 l192 l193 l194 l195 l196 l197 l198 l199 l200 l201 l202 l203 l204 l205 l206 l207 l208 l209 l210 l211 l212 l213 l214 l215 l216 l217 l218 l219 l220 l221 l222 l223 l224 l225 l226 l227 l228 l229 l230 l231 l232 l233 l234 : Value)
    (HQ : Hid (∀ (m7 m9 m10 m21 m22 m46 m47 m48 m49 m50 m51 m52 m53 m54 m55 m56 m57 m58 m60 m61 m62 m63 m64 m65 m66 m67 m68 m69 m70 m71 m72 m73 m74 m75 m76 m77 m78 m79 m80 m81 m82 m83 m84 m85 m86 m87 m88 m89 m90 m91 m92 m93 m94 m95 m96 m97 m98 m99 m100 m101 m102 m103 m104 m105 m106 m107 m108 m109 m110 m111 m112 m113 m114 m115 m116 m117 m118 m119 m120 m121 m122 m123 m124 m125 m126 m127 m128 m129 m130 m131 m132 m133 m134 m135 m136 m137 m138 m139 m140 m141 m142 m143 m144 m145 m146 m147 m148 m149 m150 m151 m152 m153 m154 m155 m156 m157 m158 m159 m160 m161 m162 m163 m164 m165 m166 m167 m168 m169 m170 m171 m172 m173 m174 m175 m176 m177 m178 m179 m180 m181 m182 m183 m184 m185 m186 m187 m188 m189 m190 m191 m192 m193 m194 m195 m196 m197 m198 m199 m200 m201 m202 m203 m204 m205 m206 m207 m208 m209 m210 m211 m212 m213 m214 m215 m216 m217 m218 m219 m220 m221 m222 m223 m224 m225 m226 m227 m228 m229 m230 m231 m232 m233 m234 : Value) (k' : Nat) (A' : List (List Fl)) (vA' : Value) (w' : World), RI w0 bp (i + 1) A' k' vA' w' → Q .normal ⟨#[l0, l1, l2, l3, l4, l5, l6, m7, .pointer (some ⟨bp, 0, none⟩), m9, m10, vA', .int .i64 (k' : Int), l13, l14, l15, l16, .slice ps M cs, .slice pz nz cz, l19, l20, m21, m22, l23, l24, l25, l26, l27, l28, l29, l30, l31, l32, l33, l34, l35, l36, l37, l38, l39, l40, l41, l42, l43, l44, l45, m46, m47, m48, m49, m50, m51, m52, m53, m54, m55, m56, m57, m58, l59, m60, m61, m62, m63, m64, m65, m66, m67, m68, m69, m70, m71, m72, m73, m74, m75, m76, m77, m78, m79, m80, m81, m82, m83, m84, m85, m86, m87, m88, m89, m90, m91, m92, m93, m94, m95, m96, m97, m98, m99, m100, m101, m102, m103, m104, m105, m106, m107, m108, m109, m110, m111, m112, m113, m114, m115, m116, m117, m118, m119, m120, m121, m122, m123, m124, m125, m126, m127, m128, m129, m130, m131, m132, m133, m134, m135, m136, m137, m138, m139, m140, m141, m142, m143, m144, m145, m146, m147, m148, m149, m150, m151, m152, m153, m154, m155, m156, m157, m158, m159, m160, m161, m162, m163, m164, m165, m166, m167, m168, m169, m170, m171, m172, m173, m174, m175, m176, m177, m178, m179, m180, m181, m182, m183, m184, m185, m186, m187, m188, m189, m190, m191, m192, m193, m194, m195, m196, m197, m198, m199, m200, m201, m202, m203, m204, m205, m206, m207, m208, m209, m210, m211, m212, m213, m214, m215, m216, m217, m218, m219, m220, m221, m222, m223, m224, m225, m226, m227, m228, m229, m230, m231, m232, m233, m234], []⟩ w')) :
    Code.wp Tryz.prog tail28C Q ⟨#[l0, l1, l2, l3, l4, l5, l6, .int .i64 e, .pointer (some ⟨bp, 0, none⟩), l9, l10, .slice (some ⟨ga, 0, none⟩) N ca, .int .i64 (k : Int), l13, l14, l15, l16, .slice ps M cs, .slice pz nz cz, l19, l20, l21, l22, l23, l24, l25, l26, l27, l28, l29, l30, l31, l32, l33, l34, l35, l36, l37, l38, l39, l40, l41, l42, l43, l44, l45, l46, l47, l48, l49, l50, l51, l52, l53, l54, l55, l56, l57, l58, l59, l60, l61, l62, l63, l64, l65, l66, l67, l68, l69, l70, l71, l72, l73, l74, l75, l76, l77, l78, l79, l80, l81, l82, l83, l84, l85, l86, l87, l88, l89, l90, l91, l92, l93, l94, l95, l96, l97, l98, l99, l100, l101, l102, l103, l104, l105, l106, l107, l108, l109, l110, l111, l112, l113, l114, l115, l116, l117, l118, l119, l120, l121, l122, l123, l124, l125, l126, l127, l128, l129, l130, l131, l132, l133, l134, l135, l136, l137, l138, l139, l140, l141, l142, l143, l144, l145, l146, l147, l148, l149, l150, l151, l152, l153, l154, l155, l156, l157, l158, l159, l160, l161, l162, l163, l164, l165, l166, l167, l168, l169, l170, l171, l172, l173, l174, l175, l176, l177, l178, l179, l180, l181, l182, l183, l184, l185, l186, l187, l188, l189, l190, l191, l192, l193, l194, l195, l196, l197, l198, l199, l200, l201, l202, l203, l204, l205, l206, l207, l208, l209, l210, l211, l212, l213, l214, l215, l216, l217, l218, l219, l220, l221, l222, l223, l224, l225, l226, l227, l228, l229, l230, l231, l232, l233, l234], []⟩ w := by
  have _h0 := HB; have _h1 := hN; have _h2 := hkN; have _h3 := hk0; have _h4 := hNc; have _h5 := HE; have _h6 := hM; have _h7 := hnz
  clear _h0 _h1 _h2 _h3 _h4 _h5 _h6 _h7
  dsimp only at HQ ⊢
  conv => arg 2; whnf
  let BPX := bodyPost Tryz.prog Tryz.f3 (fun _ _ => True)
  go_upto_region 28 with fail
  go_cut [7, 131] (fun s7 s131 wx => s7 = .int .i64 e ∧ s131 = .bool (decide (e = 0 ∧ 200 < nz)) ∧ w = wx)
  case first =>
    clear HQ
    by_cases he : e = 0
    · have HE0 : Hid (e = 0) := he
      by_cases hz : 200 < nz
      · have hz' : (200 : Int) < (nz : Int) := by omega
        have HF : Hid (decide (e = 0 ∧ 200 < nz) = true) := decide_eq_true ⟨he, hz⟩
        go_wp2_with fail
        go_meet
        case rel => exact ⟨by rw [HE0.out], by rw [HF.out], rfl⟩
      · have hz' : ¬ (200 : Int) < (nz : Int) := by omega
        have HF : Hid (decide (e = 0 ∧ 200 < nz) = false) := decide_eq_false (fun h => hz h.2)
        go_wp2_with fail
        go_meet
        case rel => exact ⟨by rw [HE0.out], by rw [HF.out], rfl⟩
    · have HF : Hid (decide (e = 0 ∧ 200 < nz) = false) := decide_eq_false (fun h => he h.1)
      go_wp2_with fail
      go_meet
      case rel => exact ⟨rfl, by rw [HF.out], rfl⟩
  case rest =>
  obtain ⟨rfl, rfl, rfl⟩ := hcut
  go_upto_if 131 with fail
  go_cut [7] (fun s7 wx => s7 = .int .i64 (eF e nz) ∧ w = wx)
  case first =>
    clear HQ
    cases hb : decide (e = 0 ∧ 200 < nz) with
    | true =>
      have HF : Hid (eF e nz = 4) := by unfold Hid eF; rw [if_pos (of_decide_eq_true hb)]
      clear hb
      go_wp2_with fail
      go_meet
      case rel => exact ⟨by rw [HF.out], rfl⟩
    | false =>
      have HF : Hid (eF e nz = e) := by unfold Hid eF; rw [if_neg (of_decide_eq_false hb)]
      clear hb
      go_wp2_with fail
      go_meet
      case rel => exact ⟨by rw [HF.out], rfl⟩
  case rest =>
  obtain ⟨rfl, rfl⟩ := hcut
  obtain ⟨t0, ht0⟩ : ∃ t0, eF e nz = t0 := ⟨_, rfl⟩
  have HT0 : Hid (eF e nz = t0) := ht0
  rw [ht0]
  clear ht0
  go_upto_region 30 with fail
  go_cut [17, 134] (fun s17 s134 wx => s17 = .slice ps M cs ∧ s134 = .bool (decide (M = 1)) ∧ w = wx)
  case first =>
    by_cases hM1 : M = 1
    · have hM1' : (M : Int) = 1 := by omega
      have HM1 : Hid (M = 1) := hM1
      have HF : Hid (decide (M = 1) = true) := decide_eq_true hM1
      clear HQ hM1
      go_wp2_with fail
      go_meet
      case rel => exact ⟨rfl, by rw [HF.out], rfl⟩
    · have hM1' : ¬ (M : Int) = 1 := by omega
      have HF : Hid (decide (M = 1) = false) := decide_eq_false hM1
      clear HQ
      go_wp2_with fail
      go_meet
      case rel => exact ⟨rfl, by rw [HF.out]; congr 1; simpa using hM1', rfl⟩
  case rest =>
  obtain ⟨rfl, rfl, rfl⟩ := hcut
  go_upto_if 134 with fail
  go_cut [9] (fun s9 wx => ∃ t, s9 = errV t ∧ KP bp w wx ∧ GO bp x st k l vn vs t wx)
  case first =>
    clear HQ
    by_cases hM1 : M = 1
    · subst hM1
      obtain ⟨f, hf⟩ : ∃ f, l = [f] := by
        have := HL.out.2
        match l, this with
        | [f], _ => exact ⟨f, rfl⟩
      have hfi : l[0]? = some f := by rw [hf]; rfl
      obtain ⟨gs, os, rfl, hgs⟩ := (fb_fm HL.out.1).at hfi
      have hbd : Below w.heap.size w w.drew := (Below.refl _ _).drew
      have HSet : Hid (Calls Tryz.prog 14 #[.pointer (some ⟨bp, 0, none⟩), C f.c f.r, .string f.s] w.drew fun e w' => ∃ v t, e = .returned v ∧ v = errV t ∧ KP bp w w' ∧ GO bp x st k l vn vs t w') := (rj_set (HJ.out.next hbd) (by have := HB.out; omega) HE.out.1 f).mono (fun e w' ⟨v, t, e1, e2, e3, e4⟩ => ⟨v, t, e1, e2, (KP.of hbd (Nat.le_of_lt HJ.out.ps.lt)).trans e3, by rw [hf]; exact e4⟩)
      have SOF : Hid (∀ wx, KP bp w wx → YK w bp gs os f wx) := fun wx hk => by
        have h0 := FM.cells (fb_fm (HL.out.1.kp hk)) hfi
        rw [Nat.zero_mul, Nat.add_zero] at h0
        exact ⟨h0.1, h0.2.1, h0.2.2, hk⟩
      have h0d := SOF.out w.drew (KP.of hbd (Nat.le_of_lt HJ.out.ps.lt))
      have hq := SOF.out w (KP.refl _ _)
      obtain ⟨q0, q1, q2, -⟩ := hq
      clear hbd hgs
      clear hf hfi
      go_wp2_with fail
      go_region_held3 (fun wx => YK w bp gs os f wx) (first | exact h0d | assumption | exact SOF.out _ hk) (first | (go_at_call 14; refine HSet.out.mono ?_; rintro e w6 ⟨v, t, rfl, hv, hk, hg⟩; have HK : Hid (∃ t, v = errV t ∧ KP bp w w6 ∧ GO bp x st k l vn vs t w6) := ⟨t, hv, hk, hg⟩; clear hv hg))
      all_goals
        clear h0d SOF HSet hk q0 q1 q2
        go_wp2_with fail
        go_meet
        case rel => exact HK.out
    · have hM1' : ¬ (M : Int) = 1 := by omega
      have HG : Hid (Calls Tryz.prog 15 #[.pointer (some ⟨bp, 0, none⟩), .slice ps M cs] w fun e w' => ∃ v, e = .returned v ∧ ∃ t, v = errV t ∧ KP bp w w' ∧ GO bp x st k l vn vs t w') := by
        have := rj_group HJ.out (by have := HB.out; omega) HE.out.1 (fb_fm HL.out.1) (by rw [HL.out.2]; omega) (fb_nil HL.out.1)
        rw [HL.out.2] at this
        exact this.mono (fun e w' ⟨t, e1, e2, e3⟩ => ⟨_, e1, t, rfl, e2, e3⟩)
      go_wp2_with fail
      refine HG.out.mono ?_
      rintro e w6 ⟨v, rfl, hv⟩
      have HV : Hid (∃ t, v = errV t ∧ KP bp w w6 ∧ GO bp x st k l vn vs t w6) := hv
      clear hv HG
      go_wp2_with fail
      go_meet
      case rel => exact HV.out
  case rest =>
  obtain ⟨t, hs9, hk, hg⟩ := hcut
  subst hs9
  obtain ⟨haf1, haf2⟩ := rj_after HJ.out HB.out.1 hk hg HZ.out.2.2.1 (by rw [HL.out.2]; exact HZ.out.2.2.2)
  rw [HZ.out.2.1, HT0.out] at haf1
  subst haf1
  have HAf : Hid (((t0 ≠ 0 ∨ Z = x) ∧ RJ w0 bp i A k (.slice (some ⟨ga, 0, none⟩) N ca) st x vn vs vals wc) ∨ (t0 = 0 ∧ Z ≠ x ∧ ∃ st' vn' vs', PL (A.take (k + 1) ++ [Z]) st' ∧ PS wc bp Z st' (k + 1) vn' vs' ∧ AL w0 A (.slice (some ⟨ga, 0, none⟩) N ca) vals wc ∧ Below w0.heap.size w0 wc)) := haf2
  have hBc : Below w0.heap.size w0 wc := HJ.out.below.trans (hk.below.mono HB.out.1)
  have hALc : AL w0 A (.slice (some ⟨ga, 0, none⟩) N ca) vals wc := HJ.out.al.kp hk
  have HS : Hid (Calls Tryz.prog 8 #[errV t0, .int .i64 t0] wc fun r w' => r = .returned (.bool true) ∧ Below wc.heap.size wc w') := told_same t0 wc (HE.out.2.below hBc (Nat.lt_of_lt_of_le (by decide : 0 < 1) HE.out.2.1))
  have HZc : Hid ((FM w0 pz Z ∨ FB wc (.slice pz nz cz) Z) ∧ Z.length = nz ∧ Sh Z) := ⟨HZ.out.1.imp id (fun h => h.kp hk), HZ.out.2.1, HZ.out.2.2.1.sh HJ.out.sh.1⟩
  have HAt : Hid (∀ wx, Below wc.heap.size wc wx → ∃ p c, wx.cell? ⟨ga, k, none⟩ = some (.slice p x.length c) ∧ FM wx p x) := fun wx hb => by
    obtain ⟨ga', ca', p, c, e, h1, h2, -⟩ := (hALc.next hb).at (bnext hBc hb hBc.size) HJ.out.here
    injection e with e _ _
    injection e with e
    injection e with e
    subst e
    exact ⟨p, c, h1, h2⟩
  have HXl : Hid (x.length ≤ 200 ∧ A.length ≤ i) := ⟨HJ.out.sh.2, HJ.out.le⟩
  have HBc : Hid (Below w0.heap.size w0 wc) := hBc
  clear hk hg haf2 hBc hALc HJ HZ HL HT0
  generalize errV t0 = ve at *
  go_wp2_with fail
  refine HS.out.mono ?_
  rintro e w1 ⟨rfl, hb1⟩
  have HB1 : Hid (Below wc.heap.size wc w1) := hb1
  obtain ⟨pb, cb, q0, hfb⟩ := HAt.out w1 hb1
  by_cases hzx : Z = x
  · have HSh : Hid (Calls Tryz.prog 16 #[.slice pz nz cz, .slice pb x.length cb] w1 fun e w' => e = .returned (.bool true) ∧ Below w1.heap.size w1 w') := by
      have := shE (c := cz) (d := cb) (p := pz) (q := pb) (xs := x) (w := w1) (by rw [← hzx]; exact lies_fm (HZc.out.1.imp id (fun h => h.below hb1)) (bnext HBc.out hb1 HBc.out.size)) hfb HXl.out.1
      rw [← HZc.out.2.1, hzx]
      exact this
    have HA2 : Hid (RJ w0 bp i A k (.slice (some ⟨ga, 0, none⟩) N ca) st x vn vs vals wc) := by
      rcases HAf.out with h | h
      · exact h.2
      · exact absurd hzx h.2.1
    clear hb1 hfb hzx HAf HS HAt
    obtain ⟨nx, hnx⟩ : ∃ nx, x.length = nx := ⟨_, rfl⟩
    rw [hnx] at q0 HSh
    clear hnx
    go_wp2_with fail
    refine HSh.out.mono ?_
    rintro e w2 ⟨rfl, hb2⟩
    have HR2 : Hid (RI w0 bp (i + 1) A k (.slice (some ⟨ga, 0, none⟩) N ca) w2) := ((HA2.out.next HB1.out).next hb2).ri
    clear hb2 HSh q0 HA2 HB1
    by_cases h0 : t0 = 0
    · subst h0
      go_wp2_with fail
      exact HQ.out _ _ _ _ _ _ _ _ _ _ _ _ _ _ _ _ _ _ _ _ _ _ _ _ _ _ _ _ _ _ _ _ _ _ _ _ _ _ _ _ _ _ _ _ _ _ _ _ _ _ _ _ _ _ _ _ _ _ _ _ _ _ _ _ _ _ _ _ _ _ _ _ _ _ _ _ _ _ _ _ _ _ _ _ _ _ _ _ _ _ _ _ _ _ _ _ _ _ _ _ _ _ _ _ _ _ _ _ _ _ _ _ _ _ _ _ _ _ _ _ _ _ _ _ _ _ _ _ _ _ _ _ _ _ _ _ _ _ _ _ _ _ _ _ _ _ _ _ _ _ _ _ _ _ _ _ _ _ _ _ _ _ _ _ _ _ _ _ _ _ _ _ _ _ _ _ _ _ _ _ _ _ _ _ _ _ _ _ _ _ _ _ _ k A _ w2 HR2.out
    · go_wp2_with fail
      exact HQ.out _ _ _ _ _ _ _ _ _ _ _ _ _ _ _ _ _ _ _ _ _ _ _ _ _ _ _ _ _ _ _ _ _ _ _ _ _ _ _ _ _ _ _ _ _ _ _ _ _ _ _ _ _ _ _ _ _ _ _ _ _ _ _ _ _ _ _ _ _ _ _ _ _ _ _ _ _ _ _ _ _ _ _ _ _ _ _ _ _ _ _ _ _ _ _ _ _ _ _ _ _ _ _ _ _ _ _ _ _ _ _ _ _ _ _ _ _ _ _ _ _ _ _ _ _ _ _ _ _ _ _ _ _ _ _ _ _ _ _ _ _ _ _ _ _ _ _ _ _ _ _ _ _ _ _ _ _ _ _ _ _ _ _ _ _ _ _ _ _ _ _ _ _ _ _ _ _ _ _ _ _ _ _ _ _ _ _ _ _ _ _ _ _ k A _ w2 HR2.out
  · have HSh : Hid (Calls Tryz.prog 16 #[.slice pz nz cz, .slice pb x.length cb] w1 fun e w' => e = .returned (.bool false) ∧ Below w1.heap.size w1 w') := by
      have := shN (c := cz) (d := cb) (p := pz) (q := pb) (xs := Z) (ys := x) (w := w1) (lies_fm (HZc.out.1.imp id (fun h => h.below hb1)) (bnext HBc.out hb1 HBc.out.size)) hfb (by have := HZc.out.2.2.len; omega) (by have := HXl.out.1; omega) hzx
      rw [HZc.out.2.1] at this
      exact this
    clear hb1 hfb HS HAt
    obtain ⟨nx, hnx⟩ : ∃ nx, x.length = nx := ⟨_, rfl⟩
    rw [hnx] at q0 HSh
    clear hnx
    go_wp2_with fail
    refine HSh.out.mono ?_
    rintro e w2 ⟨rfl, hb2⟩
    have HB2 : Hid (Below wc.heap.size wc w2) := bnext HB1.out hb2 HB1.out.size
    clear hb2 HSh q0 HB1
    by_cases h0 : t0 = 0
    · have HP : Hid (∃ st' vn' vs', PL (A.take (k + 1) ++ [Z]) st' ∧ PS w2 bp Z st' (k + 1) vn' vs' ∧ AL w0 A (.slice (some ⟨ga, 0, none⟩) N ca) vals w2 ∧ Below w0.heap.size w0 w2) := by
        rcases HAf.out with h | ⟨-, -, st', vn', vs', h1, h2, h3, h4⟩
        · rcases h.1 with h | h
          · exact absurd h0 h
          · exact absurd h hzx
        · exact ⟨st', vn', vs', h1, h2.next HB2.out, h3.next HB2.out, bnext h4 HB2.out h4.size⟩
      have HZ2 : Hid ((FM w0 pz Z ∨ FB w2 (.slice pz nz cz) Z) ∧ Z.length = nz) := ⟨HZc.out.1.imp id (fun h => h.below HB2.out), HZc.out.2.1⟩
      have HL2 : Hid (A.length ≤ i) := HXl.out.2
      subst h0
      clear HAf HZc HB2 HBc HXl hzx
      go_upto_if 164 with fail
      exact tailP Q w0 bp i A k ga ca N HB hN hkN hk0 hNc vals Z nz pz cz w2 HP HL2 HZ2 _ _ _ _ _ _ _ _ _ _ _ _ _ _ _ _ _ _ _ _ _ _ _ _ _ _ _ _ _ _ _ _ _ _ _ _ _ _ _ _ _ _ _ _ _ _ _ _ _ _ _ _ _ _ _ _ _ _ _ _ _ _ _ _ _ _ _ _ _ _ _ _ _ _ _ _ _ _ _ _ _ _ _ _ _ _ _ _ _ _ _ _ _ _ _ _ _ _ _ _ _ _ _ _ _ _ _ _ _ _ _ _ _ _ _ _ _ _ _ _ _ _ _ _ _ _ _ _ _ _ _ _ _ _ _ _ _ _ _ _ _ _ _ _ _ _ _ _ _ _ _ _ _ _ _ _ _ _ _ _ _ _ _ _ _ _ _ _ _ _ _ _ _ _ _ _ _ _ _ _ _ _ _ _ _ _ _ _ _ _ _ _ _ _ _ _ _ _ _ _ _ _ _ _ _ _ _ _ _ _ _ _ _ _ _ _ _ _ _ _ _ _ _ _ _ _ _ _ _ _ (fun _ _ _ _ _ _ _ _ _ _ _ _ _ _ _ _ _ _ _ _ _ _ _ _ _ _ _ _ _ _ _ _ _ _ _ _ _ _ _ _ _ _ _ _ _ _ _ _ _ _ _ _ _ _ _ _ _ _ _ _ _ _ _ _ _ _ _ _ _ _ _ _ _ _ _ _ _ _ _ _ _ _ _ _ _ _ _ _ _ _ _ _ _ _ _ _ _ _ _ _ _ _ _ _ _ _ _ _ _ _ _ _ _ _ _ _ _ _ _ _ _ _ _ _ _ _ _ _ _ _ _ _ _ _ _ _ _ _ _ _ _ _ _ _ _ _ _ _ _ _ _ _ _ _ _ _ _ _ _ _ _ _ _ _ _ _ _ _ _ _ _ _ _ _ _ _ _ _ _ _ _ _ _ _ _ _ _ _ _ A' vA' w' h => HQ.out _ _ _ _ _ _ _ _ _ _ _ _ _ _ _ _ _ _ _ _ _ _ _ _ _ _ _ _ _ _ _ _ _ _ _ _ _ _ _ _ _ _ _ _ _ _ _ _ _ _ _ _ _ _ _ _ _ _ _ _ _ _ _ _ _ _ _ _ _ _ _ _ _ _ _ _ _ _ _ _ _ _ _ _ _ _ _ _ _ _ _ _ _ _ _ _ _ _ _ _ _ _ _ _ _ _ _ _ _ _ _ _ _ _ _ _ _ _ _ _ _ _ _ _ _ _ _ _ _ _ _ _ _ _ _ _ _ _ _ _ _ _ _ _ _ _ _ _ _ _ _ _ _ _ _ _ _ _ _ _ _ _ _ _ _ _ _ _ _ _ _ _ _ _ _ _ _ _ _ _ _ _ _ _ _ _ _ _ _ _ _ _ _ (k + 1) A' vA' w' h)
    · have HR2 : Hid (RI w0 bp (i + 1) A k (.slice (some ⟨ga, 0, none⟩) N ca) w2) := by
        rcases HAf.out with h | h
        · exact (h.2.next HB2.out).ri
        · exact absurd h.1 h0
      clear HAf HZc HB2 HBc HXl hzx
      go_wp2_with fail
      exact HQ.out _ _ _ _ _ _ _ _ _ _ _ _ _ _ _ _ _ _ _ _ _ _ _ _ _ _ _ _ _ _ _ _ _ _ _ _ _ _ _ _ _ _ _ _ _ _ _ _ _ _ _ _ _ _ _ _ _ _ _ _ _ _ _ _ _ _ _ _ _ _ _ _ _ _ _ _ _ _ _ _ _ _ _ _ _ _ _ _ _ _ _ _ _ _ _ _ _ _ _ _ _ _ _ _ _ _ _ _ _ _ _ _ _ _ _ _ _ _ _ _ _ _ _ _ _ _ _ _ _ _ _ _ _ _ _ _ _ _ _ _ _ _ _ _ _ _ _ _ _ _ _ _ _ _ _ _ _ _ _ _ _ _ _ _ _ _ _ _ _ _ _ _ _ _ _ _ _ _ _ _ _ _ _ _ _ _ _ _ _ _ _ _ _ k A _ w2 HR2.out
end Go.Proofs.YtcekgefkimbfaaaGreatDoor.ps
