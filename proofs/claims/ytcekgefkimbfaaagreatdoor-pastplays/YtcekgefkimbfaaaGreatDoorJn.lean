/- The law PastPlays: what the reference makes of some texts. Conditions: as each theorem says. -/
import Derived.Test.YtcekgefkimbfaaaGreatDoorJm
import Derived.Test.YtcekgefkimbfaaaGreatDoorJr
namespace Go.Proofs.YtcekgefkimbfaaaGreatDoor.ps
open Go.RowKit
open adr (C isC)
set_option maxHeartbeats 1600000 in
theorem rtext_nul (w : World) : Calls Tryz.prog 12 #[.string ⟨#[]⟩] w fun e w' => e = .returned (.int .i64 0) ∧ Below w.heap.size w w' := by
  go_enter Tryz.func12, Tryz.ntmps12
  go_wp2_with fail
  go_ret
  exact ⟨rfl, Below.refl _ _⟩
theorem nul_of {s : ByteArray} (h : s.size = 0) : s = ⟨#[]⟩ := by
  obtain ⟨⟨l⟩⟩ := s
  cases l with
  | nil => rfl
  | cons a l => simp [ByteArray.size] at h
theorem sck_no {f : Fl} (h : isC f.c f.r = false) : SCk f 1 := by
  by_cases h0 : f.s.size = 0
  · exact .inl ⟨h0, by rw [if_neg (by simp [h])]⟩
  · refine .inr ⟨h0, .inr ⟨by simp, .inr ⟨by decide, 0, by simp, ?_, fun j hj => absurd hj (Nat.not_lt_zero _)⟩⟩⟩
    exact cd_range (x := f) rfl h
theorem rtext_sck (f : Fl) (w : World) (h : isC f.c f.r = true) : Calls Tryz.prog 12 #[.string f.s] w fun e w' => (∃ t, e = .returned (.int .i64 t) ∧ SCk f t) ∧ Below w.heap.size w w' := by
  by_cases h0 : f.s.size = 0
  · have hs := nul_of h0
    rw [hs]
    refine (rtext_nul w).mono ?_
    rintro e w' ⟨rfl, hb⟩
    exact ⟨⟨0, rfl, .inl ⟨h0, by rw [if_pos h]⟩⟩, hb⟩
  · refine (rtext_any f.s w h0).mono ?_
    rintro e w' ⟨rfl, hb⟩
    refine ⟨⟨_, rfl, .inr ⟨h0, ?_⟩⟩, hb⟩
    by_cases hc : ckT f.s = 0
    · rw [hc]
      refine .inr ⟨by simp, .inl ⟨rfl, fun i hi => ?_⟩⟩
      have e : i = 0 := by simp at hi; exact hi
      subst e
      rw [cd_text (x := f) rfl h (by first | rfl | decide), hc]
    · refine .inr ⟨by simp, .inr ⟨hc, 0, by simp, ?_, fun j hj => absurd hj (Nat.not_lt_zero _)⟩⟩
      exact cd_text (x := f) rfl h (by first | rfl | decide)
theorem RE.next {l xs Z : List Fl} {j : Nat} (h : RE l xs j 0 Z) {f : Fl} (hf : l[j]? = some f) (h0 : SCk f 0) : RE l xs (j + 1) 0 (wt Z f) := by
  rcases h with ⟨-, h1, h2⟩ | ⟨h, -⟩
  · refine .inl ⟨rfl, fun g hg => ?_, ?_⟩
    · rw [List.take_add_one, hf, List.mem_append] at hg
      rcases hg with hg | hg
      · exact h1 g hg
      · have e : g = f := by simpa using hg
        subst e
        exact h0
    · rw [foldl_next hf, h2]
  · exact absurd rfl h
theorem RE.fault {l xs Z : List Fl} {j : Nat} (h : RE l xs j 0 Z) {f : Fl} (hf : l[j]? = some f) {e : Int} (he : e ≠ 0) (h0 : SCk f e) : RE l xs (j + 1) e Z := by
  rcases h with ⟨-, h1, h2⟩ | ⟨h, -⟩
  · exact .inr ⟨he, j, f, rfl, hf, h0, h1, h2⟩
  · exact absurd rfl h
noncomputable def tail17C : Code := ((Tryz.f3.body.bind (findTail 17)).getD .skip)
set_option maxRecDepth 1000000 in
set_option maxHeartbeats 16000000 in
theorem tail17 (Q : Exit → Act → World → Prop) (w0 : World) (bp i : Nat) (A : List (List Fl)) (k ga ca N : Nat) (HB : Hid (w0.heap.size ≤ bp ∧ i ≤ 99 ∧ A.length = N)) (hN : (N : Int) ≤ 100) (hkN : (k : Int) < (N : Int)) (hk0 : (0 : Int) ≤ (k : Int)) (hNc : (N : Int) ≤ (ca : Int)) (st : List St) (x : List Fl) (vn vs : Value) (vals : List Value) (l : List Fl) (M : Nat) (ps : Option Addr) (cs : Nat) (HE : Hid (EnvP w0 ∧ ErrTy w0)) (w : World)
    (HJ : Hid (RJ w0 bp i A k (.slice (some ⟨ga, 0, none⟩) N ca) st x vn vs vals w)) (HL : Hid (FB w (.slice ps M cs) l ∧ l.length = M)) (hM : (M : Int) ≤ 4398046511104)
    (l0 l1 l2 l3 l4 l5 l6 l7 l9 l10 l13 l14 l15 l16 l18 l19 l20 l21 l22 l23 l24 l25 l26 l27 l28 l29 l30 l31 l32 l33 l34 l35 l36 l37 l38 l39 l40 l41 l42 l43 l44 l45 l46 l47 l48 l49 l50 l51 l52 l53 l54 l55 l56 l57 l58 l59 l60 l61 l62 l63 l64 l65 l66 l67 l68 l69 l70 l71 l72 l73 l74 l75 l76 l77 l78 l79 l80 l81 l82 l83 l84 l85 l86 l87 l88 l89 l90 l91 l92 l93 l94 l95 l96 l97 l98 l99 l100 l101 l102 l103 l104 l105 l106 l107 l108 l109 l110 l111 l112 l113 l114 l115 l116 l117 l118 l119 l120 l121 l122 l123 l124 l125 l126 l127 l128 l129 l130 l131 l132 l133 l134 l135 l136 l137 l138 l139 l140 l141 l142 l143 l144 l145 l146 l147 l148 l149 l150 l151 l152 l153 l154 l155 l156 l157 l158 l159 l160 l161 l162 l163 l164 l165 l166 l167 l168 l169 l170 l171 l172 l173 l174 l175 l176 l177 l178 l179 l180 l181 l182 l183 l184 l185 l186 l187 l188 l189 l190 l191 l192 l193 l194 l195 l196 l197 l198 l199 l200 l201 l202 l203 l204 l205 l206 l207 l208 l209 l210 l211 l212 l213 l214 l215 l216 l217 l218 l219 l220 l221 l222 l223 l224 l225 l226 l227 l228 l229 l230 l231 l232 l233 l234 : Value)
    (HQ : Hid (∀ (m7 m9 m10 m18 m19 m20 m21 m22 m46 m47 m48 m49 m50 m51 m52 m53 m54 m55 m56 m57 m58 m60 m61 m62 m63 m64 m65 m66 m67 m68 m69 m70 m71 m72 m73 m74 m75 m76 m77 m78 m79 m80 m81 m82 m83 m84 m85 m86 m87 m88 m89 m90 m91 m92 m93 m94 m95 m96 m97 m98 m99 m100 m101 m102 m103 m104 m105 m106 m107 m108 m109 m110 m111 m112 m113 m114 m115 m116 m117 m118 m119 m120 m121 m122 m123 m124 m125 m126 m127 m128 m129 m130 m131 m132 m133 m134 m135 m136 m137 m138 m139 m140 m141 m142 m143 m144 m145 m146 m147 m148 m149 m150 m151 m152 m153 m154 m155 m156 m157 m158 m159 m160 m161 m162 m163 m164 m165 m166 m167 m168 m169 m170 m171 m172 m173 m174 m175 m176 m177 m178 m179 m180 m181 m182 m183 m184 m185 m186 m187 m188 m189 m190 m191 m192 m193 m194 m195 m196 m197 m198 m199 m200 m201 m202 m203 m204 m205 m206 m207 m208 m209 m210 m211 m212 m213 m214 m215 m216 m217 m218 m219 m220 m221 m222 m223 m224 m225 m226 m227 m228 m229 m230 m231 m232 m233 m234 : Value) (k' : Nat) (A' : List (List Fl)) (vA' : Value) (w' : World), RI w0 bp (i + 1) A' k' vA' w' → Q .normal ⟨#[l0, l1, l2, l3, l4, l5, l6, m7, .pointer (some ⟨bp, 0, none⟩), m9, m10, vA', .int .i64 (k' : Int), l13, l14, l15, l16, .slice ps M cs, m18, m19, m20, m21, m22, l23, l24, l25, l26, l27, l28, l29, l30, l31, l32, l33, l34, l35, l36, l37, l38, l39, l40, l41, l42, l43, l44, l45, m46, m47, m48, m49, m50, m51, m52, m53, m54, m55, m56, m57, m58, l59, m60, m61, m62, m63, m64, m65, m66, m67, m68, m69, m70, m71, m72, m73, m74, m75, m76, m77, m78, m79, m80, m81, m82, m83, m84, m85, m86, m87, m88, m89, m90, m91, m92, m93, m94, m95, m96, m97, m98, m99, m100, m101, m102, m103, m104, m105, m106, m107, m108, m109, m110, m111, m112, m113, m114, m115, m116, m117, m118, m119, m120, m121, m122, m123, m124, m125, m126, m127, m128, m129, m130, m131, m132, m133, m134, m135, m136, m137, m138, m139, m140, m141, m142, m143, m144, m145, m146, m147, m148, m149, m150, m151, m152, m153, m154, m155, m156, m157, m158, m159, m160, m161, m162, m163, m164, m165, m166, m167, m168, m169, m170, m171, m172, m173, m174, m175, m176, m177, m178, m179, m180, m181, m182, m183, m184, m185, m186, m187, m188, m189, m190, m191, m192, m193, m194, m195, m196, m197, m198, m199, m200, m201, m202, m203, m204, m205, m206, m207, m208, m209, m210, m211, m212, m213, m214, m215, m216, m217, m218, m219, m220, m221, m222, m223, m224, m225, m226, m227, m228, m229, m230, m231, m232, m233, m234], []⟩ w')) :
    Code.wp Tryz.prog tail17C Q ⟨#[l0, l1, l2, l3, l4, l5, l6, l7, .pointer (some ⟨bp, 0, none⟩), l9, l10, .slice (some ⟨ga, 0, none⟩) N ca, .int .i64 (k : Int), l13, l14, l15, l16, .slice ps M cs, l18, l19, l20, l21, l22, l23, l24, l25, l26, l27, l28, l29, l30, l31, l32, l33, l34, l35, l36, l37, l38, l39, l40, l41, l42, l43, l44, l45, l46, l47, l48, l49, l50, l51, l52, l53, l54, l55, l56, l57, l58, l59, l60, l61, l62, l63, l64, l65, l66, l67, l68, l69, l70, l71, l72, l73, l74, l75, l76, l77, l78, l79, l80, l81, l82, l83, l84, l85, l86, l87, l88, l89, l90, l91, l92, l93, l94, l95, l96, l97, l98, l99, l100, l101, l102, l103, l104, l105, l106, l107, l108, l109, l110, l111, l112, l113, l114, l115, l116, l117, l118, l119, l120, l121, l122, l123, l124, l125, l126, l127, l128, l129, l130, l131, l132, l133, l134, l135, l136, l137, l138, l139, l140, l141, l142, l143, l144, l145, l146, l147, l148, l149, l150, l151, l152, l153, l154, l155, l156, l157, l158, l159, l160, l161, l162, l163, l164, l165, l166, l167, l168, l169, l170, l171, l172, l173, l174, l175, l176, l177, l178, l179, l180, l181, l182, l183, l184, l185, l186, l187, l188, l189, l190, l191, l192, l193, l194, l195, l196, l197, l198, l199, l200, l201, l202, l203, l204, l205, l206, l207, l208, l209, l210, l211, l212, l213, l214, l215, l216, l217, l218, l219, l220, l221, l222, l223, l224, l225, l226, l227, l228, l229, l230, l231, l232, l233, l234], []⟩ w := by
  have _h0 := HB; have _h1 := hN; have _h2 := hkN; have _h3 := hk0; have _h4 := hNc; have _h5 := HE; have _h6 := hM
  clear _h0 _h1 _h2 _h3 _h4 _h5 _h6
  dsimp only at HQ ⊢
  conv => arg 2; whnf
  let BPX := bodyPost Tryz.prog Tryz.f3 (fun _ _ => True)
  obtain ⟨px, cx, q0, hx0⟩ : ∃ p c, w.cell? ⟨ga, k, none⟩ = some (.slice p x.length c) ∧ (FM w0 p x ∨ FB w (.slice p x.length c) x) := by
    obtain ⟨ga', ca', p, c, e, h1, -, -, h2, -⟩ := HJ.out.al.at HJ.out.below HJ.out.here
    injection e with e _ _
    injection e with e
    injection e with e
    subst e
    exact ⟨p, c, h1, h2⟩
  have HX0 : Hid (FM w0 px x ∨ FB w (.slice px x.length cx) x) := hx0
  obtain ⟨nx, hnx⟩ : ∃ nx, x.length = nx := ⟨_, rfl⟩
  have HNX : Hid (x.length = nx) := hnx
  rw [hnx] at q0
  clear hx0 hnx
  go_upto_block 5 with fail
  go_cut [7, 18] (fun s7 s18 wx => ∃ (j nz cz : Nat) (e : Int) (Z : List Fl) (pz : Option Addr), s7 = .int .i64 e ∧ s18 = .slice pz nz cz ∧ Hid (((FM w0 pz Z ∨ FB wx (.slice pz nz cz) Z) ∧ Z.length = nz ∧ RE l x j e Z ∧ (e ≠ 0 ∨ j = M)) ∧ Below w.heap.size w wx))
  case first =>
    clear HQ
    go_wp2_with fail
    go_loopw [7, 18, 19] (fun s7 s18 s19 wr => ∃ (j nz cz : Nat) (e : Int) (Z : List Fl) (pz : Option Addr), s19 = .int .i64 j ∧ s7 = .int .i64 e ∧ s18 = .slice pz nz cz ∧ j ≤ M ∧ Hid (RE l x j e Z ∧ (FM w0 pz Z ∨ FB wr (.slice pz nz cz) Z) ∧ Z.length = nz ∧ Below w.heap.size w wr)) (fun _ _ s19 _ => M - (intOf s19).toNat)
    case atStart => exact ⟨0, nx, cx, 0, x, px, rfl, rfl, rfl, Nat.zero_le _, ⟨.inl ⟨rfl, fun f hf => by simp at hf, rfl⟩, by have := HX0.out; rw [HNX.out] at this; exact this, HNX.out, Below.refl _ _⟩⟩
    case round =>
      clear q0
      obtain ⟨j, nz, cz, e, Z, pz, rfl, rfl, rfl, hj, HR⟩ := hrel
      have HBw : Hid (Below w0.heap.size w0 wr) := bnext HJ.out.below HR.out.2.2.2 HJ.out.below.size
      have HSZ : Hid (Sh Z) := HR.out.1.sh HJ.out.sh.1
      have hnz : (nz : Int) ≤ 2600 := by have := HSZ.out.len; rw [HR.out.2.2.1] at this; omega
      have hj0 : (0 : Int) ≤ (j : Int) := by omega
      by_cases hjM : j < M
      · have hjM' : (j : Int) < (M : Int) := by omega
        by_cases he : e = 0
        · subst he
          obtain ⟨f, hf⟩ : ∃ f, l[j]? = some f := ⟨_, List.getElem?_eq_getElem (by rw [HL.out.2]; exact hjM)⟩
          have HF : Hid (l[j]? = some f) := hf
          obtain ⟨gs, os, rfl, hgs⟩ := (fb_fm HL.out.1).at hf
          obtain ⟨q0, q1, q2⟩ := FM.cells (fb_fm (HL.out.1.below HR.out.2.2.2)) hf
          have SOF : Hid (∀ wx, Below w.heap.size w wx → YC w gs (os + j * 3) f wx) := fun wx hb => by
            obtain ⟨a, b, c⟩ := FM.cells (fb_fm (HL.out.1.below hb)) HF.out
            exact ⟨a, b, c, hb⟩
          have hIn := rin_any f.c f.r wr
          clear hf
          cases hc : isC f.c f.r with
          | false =>
            rw [hc] at hIn
            have HIn : Hid (Calls Tryz.prog 11 #[C f.c f.r] wr fun e w' => e = .returned (.bool false) ∧ Below wr.heap.size wr w') := hIn
            have HS1 : Hid (SCk f 1) := sck_no hc
            clear hIn hc
            go_wp2_with fail
            refine HIn.out.mono ?_
            rintro e w1 ⟨rfl, hb1⟩
            have HB1 : Hid (Below wr.heap.size wr w1) := hb1
            clear hb1 HIn q0 q1 q2
            go_wp2_with fail
            exact ⟨⟨j + 1, nz, cz, 1, Z, pz, rfl, rfl, rfl, hjM, ⟨HR.out.1.fault HF.out (by decide) HS1.out, HR.out.2.1.imp id (fun h => h.below HB1.out), HR.out.2.2.1, bnext HR.out.2.2.2 HB1.out HR.out.2.2.2.size⟩⟩, by simp [intOf]; omega⟩
          | true =>
            rw [hc] at hIn
            have HIn : Hid (Calls Tryz.prog 11 #[C f.c f.r] wr fun e w' => e = .returned (.bool true) ∧ Below wr.heap.size wr w') := hIn
            have HTx : Hid (∀ wx, Calls Tryz.prog 12 #[.string f.s] wx fun e w' => (∃ t, e = .returned (.int .i64 t) ∧ SCk f t) ∧ Below wx.heap.size wx w') := fun wx => rtext_sck f wx hc
            clear hIn hc
            go_wp2_with fail
            refine HIn.out.mono ?_
            rintro e w1 ⟨rfl, hb1⟩
            have HB1 : Hid (Below w.heap.size w w1) := bnext HR.out.2.2.2 hb1 HR.out.2.2.2.size
            have HBr : Hid (Below wr.heap.size wr w1) := hb1
            clear q0 q1 q2 HIn hb1
            obtain ⟨q0, q1, q2, -⟩ := SOF.out w1 HB1.out
            go_wp2_with fail
            refine (HTx.out _).mono ?_
            rintro e w2 ⟨⟨t, rfl, ht⟩, hb2⟩
            have HT : Hid (SCk f t) := ht
            have HB2 : Hid (Below w.heap.size w w2 ∧ Below wr.heap.size wr w2) := ⟨bnext HB1.out hb2 HB1.out.size, bnext HBr.out hb2 HBr.out.size⟩
            clear q0 q1 q2 ht hb2 HTx HB1 HBr
            by_cases ht0 : t = 0
            · subst ht0
              obtain ⟨q0, q1, q2, -⟩ := SOF.out w2 HB2.out.1
              have HWi : Hid (∀ wx, Below w.heap.size w wx → Below w2.heap.size w2 wx → Calls Tryz.prog 13 #[.slice pz nz cz, C f.c f.r, .string f.s] wx fun e w' => (∃ p n c, e = .returned (.slice p n c) ∧ FB w' (.slice p n c) (wt Z f) ∧ (wt Z f).length = n) ∧ Below wx.heap.size wx w' ∧ Below w.heap.size w w') := fun wx hb hb' => by
                have hw2 := bnext HB2.out.2 hb' HB2.out.2.size
                have := rwith_any pz cz Z f wx (lies_fm (HR.out.2.1.imp id (fun h => h.below hw2)) (bnext HBw.out hw2 HBw.out.size)) (by have := HSZ.out.len; omega) HSZ.out.srt
                rw [HR.out.2.2.1] at this
                refine this.mono ?_
                rintro e w' ⟨⟨v, rfl, hv⟩, hb3⟩
                obtain ⟨p, c, rfl, -⟩ := hv.full
                exact ⟨⟨p, _, c, rfl, hv, rfl⟩, hb3, bnext hb hb3 hb.size⟩
              have h0d := SOF.out w2.drew HB2.out.1.drew
              go_wp2_with fail
              go_region_held3 (fun wx => YC w gs (os + j * 3) f wx) (first | exact h0d | assumption | exact SOF.out _ hb4) (first | (go_at_call 13; refine (HWi.out _ HB2.out.1.drew (Below.refl _ _).drew).mono ?_; rintro e w3 ⟨⟨p3, n3, c3, rfl, hv3, hn3⟩, hb3, hb4⟩))
              all_goals
                have HE3 : Hid (FB w3 (.slice p3 n3 c3) (wt Z f) ∧ (wt Z f).length = n3 ∧ Below w.heap.size w w3) := ⟨hv3, hn3, hb4⟩
                clear hv3 hn3 hb3 hb4 h0d q0 q1 q2 HWi SOF
                go_wp2_with fail
                exact ⟨⟨j + 1, n3, c3, 0, wt Z f, p3, rfl, rfl, rfl, hjM, ⟨HR.out.1.next HF.out HT.out, .inr HE3.out.1, HE3.out.2.1, HE3.out.2.2⟩⟩, by simp [intOf]; omega⟩
            · go_wp2_with fail
              exact ⟨⟨j + 1, nz, cz, t, Z, pz, rfl, rfl, rfl, hjM, ⟨HR.out.1.fault HF.out ht0 HT.out, HR.out.2.1.imp id (fun h => h.below HB2.out.2), HR.out.2.2.1, HB2.out.1⟩⟩, by simp [intOf]; omega⟩
        · have HZ : Hid (((FM w0 pz Z ∨ FB wr (.slice pz nz cz) Z) ∧ Z.length = nz ∧ RE l x j e Z ∧ (e ≠ 0 ∨ j = M)) ∧ Below w.heap.size w wr) := ⟨⟨HR.out.2.1, HR.out.2.2.1, HR.out.1, .inl he⟩, HR.out.2.2.2⟩
          clear HBw HSZ HX0 HNX HR HJ HL
          go_wp2_with fail
          go_meet
          case rel => exact ⟨j, nz, cz, e, Z, pz, rfl, rfl, HZ.out⟩
      · have hjM' : ¬ (j : Int) < (M : Int) := by omega
        have HZ : Hid (((FM w0 pz Z ∨ FB wr (.slice pz nz cz) Z) ∧ Z.length = nz ∧ RE l x j e Z ∧ (e ≠ 0 ∨ j = M)) ∧ Below w.heap.size w wr) := ⟨⟨HR.out.2.1, HR.out.2.2.1, HR.out.1, .inr (by omega)⟩, HR.out.2.2.2⟩
        clear HBw HSZ HX0 HNX HR HJ HL
        go_wp2_with fail
        go_meet
        case rel => exact ⟨j, nz, cz, e, Z, pz, rfl, rfl, HZ.out⟩
  case rest =>
  obtain ⟨j, nz, cz, e, Z, pz, rfl, rfl, HC⟩ := hcut
  have HZ : Hid ((FM w0 pz Z ∨ FB wc (.slice pz nz cz) Z) ∧ Z.length = nz ∧ RE l x j e Z ∧ (e ≠ 0 ∨ j = M)) := HC.out.1
  have HJ2 : Hid (RJ w0 bp i A k (.slice (some ⟨ga, 0, none⟩) N ca) st x vn vs vals wc) := HJ.out.next HC.out.2
  have HL2 : Hid (FB wc (.slice ps M cs) l ∧ l.length = M) := ⟨HL.out.1.below HC.out.2, HL.out.2⟩
  have hnz : (nz : Int) ≤ 2600 := by have := (HC.out.1.2.2.1.sh HJ.out.sh.1).len; rw [HC.out.1.2.1] at this; omega
  apply_assumption
  exact tail28 Q w0 bp i A k ga ca N HB hN hkN hk0 hNc st x vn vs vals l M ps cs Z nz pz cz j e HE wc HJ2 HL2 hM HZ hnz _ _ _ _ _ _ _ _ _ _ _ _ _ _ _ _ _ _ _ _ _ _ _ _ _ _ _ _ _ _ _ _ _ _ _ _ _ _ _ _ _ _ _ _ _ _ _ _ _ _ _ _ _ _ _ _ _ _ _ _ _ _ _ _ _ _ _ _ _ _ _ _ _ _ _ _ _ _ _ _ _ _ _ _ _ _ _ _ _ _ _ _ _ _ _ _ _ _ _ _ _ _ _ _ _ _ _ _ _ _ _ _ _ _ _ _ _ _ _ _ _ _ _ _ _ _ _ _ _ _ _ _ _ _ _ _ _ _ _ _ _ _ _ _ _ _ _ _ _ _ _ _ _ _ _ _ _ _ _ _ _ _ _ _ _ _ _ _ _ _ _ _ _ _ _ _ _ _ _ _ _ _ _ _ _ _ _ _ _ _ _ _ _ _ _ _ _ _ _ _ _ _ _ _ _ _ _ _ _ _ _ _ _ _ _ _ _ _ _ _ _ _ _ _ _ _ _ _ _ (fun _ _ _ _ _ _ _ _ _ _ _ _ _ _ _ _ _ _ _ _ _ _ _ _ _ _ _ _ _ _ _ _ _ _ _ _ _ _ _ _ _ _ _ _ _ _ _ _ _ _ _ _ _ _ _ _ _ _ _ _ _ _ _ _ _ _ _ _ _ _ _ _ _ _ _ _ _ _ _ _ _ _ _ _ _ _ _ _ _ _ _ _ _ _ _ _ _ _ _ _ _ _ _ _ _ _ _ _ _ _ _ _ _ _ _ _ _ _ _ _ _ _ _ _ _ _ _ _ _ _ _ _ _ _ _ _ _ _ _ _ _ _ _ _ _ _ _ _ _ _ _ _ _ _ _ _ _ _ _ _ _ _ _ _ _ _ _ _ _ _ _ _ _ _ _ _ _ _ _ _ _ _ _ _ _ _ _ _ _ _ _ _ _ k' A' vA' w' h => HQ.out _ _ _ _ _ _ _ _ _ _ _ _ _ _ _ _ _ _ _ _ _ _ _ _ _ _ _ _ _ _ _ _ _ _ _ _ _ _ _ _ _ _ _ _ _ _ _ _ _ _ _ _ _ _ _ _ _ _ _ _ _ _ _ _ _ _ _ _ _ _ _ _ _ _ _ _ _ _ _ _ _ _ _ _ _ _ _ _ _ _ _ _ _ _ _ _ _ _ _ _ _ _ _ _ _ _ _ _ _ _ _ _ _ _ _ _ _ _ _ _ _ _ _ _ _ _ _ _ _ _ _ _ _ _ _ _ _ _ _ _ _ _ _ _ _ _ _ _ _ _ _ _ _ _ _ _ _ _ _ _ _ _ _ _ _ _ _ _ _ _ _ _ _ _ _ _ _ _ _ _ _ _ _ _ _ _ _ _ _ _ _ _ _ _ _ _ k' A' vA' w' h)
end Go.Proofs.YtcekgefkimbfaaaGreatDoor.ps
/- The law PastPlays: some texts are taken; the law. Conditions: as each theorem says. -/
namespace Go.Proofs.YtcekgefkimbfaaaGreatDoor.ps
open Go.RowKit
open adr (C isC)
theorem LV.oneB {w : World} {v : Value} {ys : List Fl} {wx : World} (h : LV w v ys wx) (hy : ys.length + 1 ≤ 4398046511104) (y : Fl) :
    ∃ p c w', (Builtin.append_ #[22, 22] 22 #[v, .slice (some ⟨wx.heap.size, 0, none⟩) 1 1]).run Tryz.prog (wx.alloc (.cells #[.int .i64 y.c, .int .i64 y.r, .string y.s] 36)) = .ok (.slice p (ys.length + 1) c) w' ∧ LV w (.slice p (ys.length + 1) c) (ys ++ [y]) w' := by
  have h1 := h.next ((Below.refl _ _).alloc (Nat.le_refl _) (.cells #[.int .i64 y.c, .int .i64 y.r, .string y.s] 36))
  obtain ⟨v', w', r1, r2, r3, -⟩ := app_any (wx.alloc (.cells #[.int .i64 y.c, .int .i64 y.r, .string y.s] 36)) w.heap.size h1.below.size v ys.length (flF ys) h1.own (some ⟨wx.heap.size, 0, none⟩) [y] 1 (fm_new wx y) (by simpa using hy)
  have ho : w'.ownsRow w.heap.size 36 3 v' (ys ++ [y]).length (flF (ys ++ [y])) := by rw [flF_app, List.length_append]; exact r2
  obtain ⟨p, c, rfl, -⟩ := FB.shape (own_base ho (Nat.zero_le _))
  rw [List.length_append] at r1 ho
  exact ⟨p, c, w', r1, by rw [List.length_append]; exact ho, h1.below.trans r3⟩
theorem RI.form {w0 : World} {bp i : Nat} {A : List (List Fl)} {k : Nat} {vA : Value} {w : World} (h : RI w0 bp i A k vA w) : ∃ ga ca, vA = .slice (some ⟨ga, 0, none⟩) A.length ca ∧ A.length ≤ ca ∧ k < A.length ∧ A.length ≤ i := by
  obtain ⟨st, x, vn, vs, vals, hp, hx, hps, hal, hl, hB⟩ := h
  obtain ⟨ga, ca, p, c, e, -, -, -, -, h1, -⟩ := hal.at hB hx
  exact ⟨ga, ca, e, h1, (List.getElem?_eq_some_iff.1 hx).1, hl⟩
theorem take_next {ys : List Fl} {u j : Nat} {y : Fl} (h : ys[u + j]? = some y) : (ys.drop u).take (j + 1) = (ys.drop u).take j ++ [y] := by
  rw [List.take_add_one, List.getElem?_drop, h]
  rfl
theorem take_len {ys : List Fl} {u j : Nat} (h : u + j ≤ ys.length) : ((ys.drop u).take j).length = j := by
  rw [List.length_take, List.length_drop]
  omega
noncomputable def tail13C : Code := ((Tryz.f3.body.bind (findTail 13)).getD .skip)
set_option maxRecDepth 1000000 in
set_option maxHeartbeats 16000000 in
theorem arm13 (Q : Exit → Act → World → Prop) (w0 : World) (bp i : Nat) (A : List (List Fl)) (k ga ca N : Nat) (HB : Hid (w0.heap.size ≤ bp ∧ i ≤ 99 ∧ A.length = N)) (hN : (N : Int) ≤ 100) (hkN : (k : Int) < (N : Int)) (hk0 : (0 : Int) ≤ (k : Int)) (hNc : (N : Int) ≤ (ca : Int)) (ys : List Fl) (q : Option Addr) (m d : Nat) (HY : Hid (FM w0 q ys ∧ ys.length = m)) (hm : (m : Int) ≤ 4398046511104) (gi oi ni ci ii : Nat) (v : Int) (hii : (ii : Int) < (ni : Int)) (hii0 : (0 : Int) ≤ (ii : Int)) (HV : Hid (∀ wx, Below w0.heap.size w0 wx → wx.cell? ⟨gi, oi + ii, none⟩ = some (.int .i64 v))) (u : Nat) (hu : u ≤ m) (HE : Hid (EnvP w0 ∧ ErrTy w0)) (w : World)
    (HR0 : Hid (RI w0 bp i A k (.slice (some ⟨ga, 0, none⟩) N ca) w))
    (l0 l3 l4 l5 l6 l7 l9 l10 l15 l16 l17 l18 l19 l20 l21 l22 l23 l24 l25 l26 l27 l28 l29 l30 l31 l32 l33 l34 l35 l36 l37 l38 l39 l40 l41 l42 l43 l44 l45 l46 l47 l48 l49 l50 l51 l52 l53 l54 l55 l56 l57 l58 l59 l60 l61 l62 l63 l64 l65 l66 l67 l68 l69 l70 l71 l72 l73 l74 l75 l76 l77 l78 l79 l80 l81 l82 l83 l84 l85 l86 l87 l88 l89 l90 l91 l92 l93 l94 l95 l96 l97 l98 l99 l100 l101 l102 l103 l104 l105 l106 l107 l108 l109 l110 l111 l112 l113 l114 l115 l116 l117 l118 l119 l120 l121 l122 l123 l124 l125 l126 l127 l128 l129 l130 l131 l132 l133 l134 l135 l136 l137 l138 l139 l140 l141 l142 l143 l144 l145 l146 l147 l148 l149 l150 l151 l152 l153 l154 l155 l156 l157 l158 l159 l160 l161 l162 l163 l164 l165 l166 l167 l168 l169 l170 l171 l172 l173 l174 l175 l176 l177 l178 l179 l180 l181 l182 l183 l184 l185 l186 l187 l188 l189 l190 l191 l192 l193 l194 l195 l196 l197 l198 l199 l200 l201 l202 l203 l204 l205 l206 l207 l208 l209 l210 l211 l212 l213 l214 l215 l216 l217 l218 l219 l220 l221 l222 l223 l224 l225 l226 l227 l228 l229 l230 l231 l232 l233 l234 : Value)
    (HQ : Hid (∀ (m7 m9 m10 m17 m18 m19 m20 m21 m22 m46 m47 m48 m49 m50 m51 m52 m53 m54 m55 m56 m57 m58 m60 m61 m62 m63 m64 m65 m66 m67 m68 m69 m70 m71 m72 m73 m74 m75 m76 m77 m78 m79 m80 m81 m82 m83 m84 m85 m86 m87 m88 m89 m90 m91 m92 m93 m94 m95 m96 m97 m98 m99 m100 m101 m102 m103 m104 m105 m106 m107 m108 m109 m110 m111 m112 m113 m114 m115 m116 m117 m118 m119 m120 m121 m122 m123 m124 m125 m126 m127 m128 m129 m130 m131 m132 m133 m134 m135 m136 m137 m138 m139 m140 m141 m142 m143 m144 m145 m146 m147 m148 m149 m150 m151 m152 m153 m154 m155 m156 m157 m158 m159 m160 m161 m162 m163 m164 m165 m166 m167 m168 m169 m170 m171 m172 m173 m174 m175 m176 m177 m178 m179 m180 m181 m182 m183 m184 m185 m186 m187 m188 m189 m190 m191 m192 m193 m194 m195 m196 m197 m198 m199 m200 m201 m202 m203 m204 m205 m206 m207 m208 m209 m210 m211 m212 m213 m214 m215 m216 m217 m218 m219 m220 m221 m222 m223 m224 m225 m226 m227 m228 m229 m230 m231 m232 m233 m234 : Value) (k' u' : Nat) (A' : List (List Fl)) (vA' : Value) (w' : World), u' ≤ m → RI w0 bp (i + 1) A' k' vA' w' → Q .normal ⟨#[l0, .slice (some ⟨gi, oi, none⟩) ni ci, .slice q m d, l3, l4, l5, l6, m7, .pointer (some ⟨bp, 0, none⟩), m9, m10, vA', .int .i64 (k' : Int), .int .i64 (u' : Int), .int .i64 (ii : Int), l15, l16, m17, m18, m19, m20, m21, m22, l23, l24, l25, l26, l27, l28, l29, l30, l31, l32, l33, l34, l35, l36, l37, l38, l39, l40, l41, l42, l43, l44, l45, m46, m47, m48, m49, m50, m51, m52, m53, m54, m55, m56, m57, m58, l59, m60, m61, m62, m63, m64, m65, m66, m67, m68, m69, m70, m71, m72, m73, m74, m75, m76, m77, m78, m79, m80, m81, m82, m83, m84, m85, m86, m87, m88, m89, m90, m91, m92, m93, m94, m95, m96, m97, m98, m99, m100, m101, m102, m103, m104, m105, m106, m107, m108, m109, m110, m111, m112, m113, m114, m115, m116, m117, m118, m119, m120, m121, m122, m123, m124, m125, m126, m127, m128, m129, m130, m131, m132, m133, m134, m135, m136, m137, m138, m139, m140, m141, m142, m143, m144, m145, m146, m147, m148, m149, m150, m151, m152, m153, m154, m155, m156, m157, m158, m159, m160, m161, m162, m163, m164, m165, m166, m167, m168, m169, m170, m171, m172, m173, m174, m175, m176, m177, m178, m179, m180, m181, m182, m183, m184, m185, m186, m187, m188, m189, m190, m191, m192, m193, m194, m195, m196, m197, m198, m199, m200, m201, m202, m203, m204, m205, m206, m207, m208, m209, m210, m211, m212, m213, m214, m215, m216, m217, m218, m219, m220, m221, m222, m223, m224, m225, m226, m227, m228, m229, m230, m231, m232, m233, m234], []⟩ w')) :
    Code.wp Tryz.prog tail13C Q ⟨#[l0, .slice (some ⟨gi, oi, none⟩) ni ci, .slice q m d, l3, l4, l5, l6, l7, .pointer (some ⟨bp, 0, none⟩), l9, l10, .slice (some ⟨ga, 0, none⟩) N ca, .int .i64 (k : Int), .int .i64 (u : Int), .int .i64 (ii : Int), l15, l16, l17, l18, l19, l20, l21, l22, l23, l24, l25, l26, l27, l28, l29, l30, l31, l32, l33, l34, l35, l36, l37, l38, l39, l40, l41, l42, l43, l44, l45, l46, l47, l48, l49, l50, l51, l52, l53, l54, l55, l56, l57, l58, l59, l60, l61, l62, l63, l64, l65, l66, l67, l68, l69, l70, l71, l72, l73, l74, l75, l76, l77, l78, l79, l80, l81, l82, l83, l84, l85, l86, l87, l88, l89, l90, l91, l92, l93, l94, l95, l96, l97, l98, l99, l100, l101, l102, l103, l104, l105, l106, l107, l108, l109, l110, l111, l112, l113, l114, l115, l116, l117, l118, l119, l120, l121, l122, l123, l124, l125, l126, l127, l128, l129, l130, l131, l132, l133, l134, l135, l136, l137, l138, l139, l140, l141, l142, l143, l144, l145, l146, l147, l148, l149, l150, l151, l152, l153, l154, l155, l156, l157, l158, l159, l160, l161, l162, l163, l164, l165, l166, l167, l168, l169, l170, l171, l172, l173, l174, l175, l176, l177, l178, l179, l180, l181, l182, l183, l184, l185, l186, l187, l188, l189, l190, l191, l192, l193, l194, l195, l196, l197, l198, l199, l200, l201, l202, l203, l204, l205, l206, l207, l208, l209, l210, l211, l212, l213, l214, l215, l216, l217, l218, l219, l220, l221, l222, l223, l224, l225, l226, l227, l228, l229, l230, l231, l232, l233, l234], []⟩ w := by
  have _h0 := HB; have _h1 := hN; have _h2 := hkN; have _h3 := hk0; have _h4 := hNc; have _h5 := HE; have _h6 := hm; have _h7 := hii; have _h8 := hii0; have _h9 := hu
  clear _h0 _h1 _h2 _h3 _h4 _h5 _h6 _h7 _h8 _h9
  dsimp only at HQ ⊢
  conv => arg 2; whnf
  let BPX := bodyPost Tryz.prog Tryz.f3 (fun _ _ => True)
  obtain ⟨st, x, vn, vs, vals, hp, hx, hps, hal, hl, hB⟩ := HR0.out
  have HJ : Hid (RJ w0 bp i A k (.slice (some ⟨ga, 0, none⟩) N ca) st x vn vs vals w) := ⟨hp, hx, hps, hal, hl, hB⟩
  clear hp hx hps hal hl hB HR0
  go_upto_block 3 with fail
  go_cut [13, 17] (fun s13 s17 wx => ∃ (j cs : Nat) (ps : Option Addr), s13 = .int .i64 ((u + j : Nat) : Int) ∧ s17 = .slice ps j cs ∧ u + j ≤ m ∧ Hid (LV w (.slice ps j cs) ((ys.drop u).take j) wx))
  case first =>
    clear HQ
    go_wp2_with fail
    go_loopw [13, 17] (fun s13 s17 wr => ∃ (j cs : Nat) (ps : Option Addr), s13 = .int .i64 ((u + j : Nat) : Int) ∧ s17 = .slice ps j cs ∧ u + j ≤ m ∧ Hid (LV w (.slice ps j cs) ((ys.drop u).take j) wr)) (fun s13 _ _ => m - (intOf s13).toNat)
    case atStart => exact ⟨0, 0, none, rfl, rfl, hu, ⟨⟨by simp [flF], .inl ⟨rfl, by simp⟩⟩, Below.refl _ _⟩⟩
    case round =>
      obtain ⟨j, cs, ps, rfl, rfl, huj, HR⟩ := hrel
      have hc0 : wr.cell? ⟨gi, oi + ii, none⟩ = some (.int .i64 v) := HV.out wr (bnext HJ.out.below HR.out.below HJ.out.below.size)
      obtain ⟨uj, huj'⟩ : ∃ uj, u + j = uj := ⟨_, rfl⟩
      have HUJ : Hid (u + j = uj) := huj'
      have huj0 : (0 : Int) ≤ (uj : Int) := by omega
      have huj1 : uj ≤ m := by omega
      have huj2 : (uj : Int) ≤ 4398046511104 := by omega
      rw [huj']
      clear huj'
      obtain ⟨vm, hvm⟩ : ∃ vm, IntKind.i64.wrap (v - 1) = vm := ⟨_, rfl⟩
      by_cases c1 : (j : Int) < vm
      · by_cases c2 : uj < m
        · have c2' : (uj : Int) < (m : Int) := by omega
          obtain ⟨y, hy⟩ : ∃ y, ys[uj]? = some y := ⟨_, List.getElem?_eq_getElem (by rw [HY.out.2]; exact c2)⟩
          obtain ⟨gy, oy, rfl, hgy⟩ := HY.out.1.at hy
          obtain ⟨q0, q1, q2⟩ := FM.cells (HY.out.1.below (bnext HJ.out.below HR.out.below HJ.out.below.size)) hy
          have hlen : ((ys.drop u).take j).length = j := take_len (by rw [HY.out.2]; exact huj)
          obtain ⟨p2, c2x, w2, hr, hl2⟩ := HR.out.oneB (by rw [hlen]; have := HUJ.out; omega) y
          rw [hlen] at hr hl2
          have HR1 : Hid ((Builtin.append_ #[22, 22] 22 #[.slice ps j cs, .slice (some ⟨wr.heap.size, 0, none⟩) 1 1]).run Tryz.prog (wr.alloc (.cells #[.int .i64 y.c, .int .i64 y.r, .string y.s] 36)) = .ok (.slice p2 (j + 1) c2x) w2) := hr
          have HL2 : Hid (LV w (.slice p2 (j + 1) c2x) ((ys.drop u).take (j + 1)) w2) := by
            unfold Hid
            rw [take_next (by rw [HUJ.out]; exact hy)]
            exact hl2
          clear hy hr hl2 hlen
          go_wp2_with (first | (at_builtin; refine fm.wpList_append_eq rfl _ _ 22 rfl _ _ _ _ rfl rfl HR1.out ?_))
          exact ⟨⟨j + 1, c2x, p2, by rw [← HUJ.out]; rfl, rfl, by have := HUJ.out; omega, HL2.out⟩, by have := HUJ.out; simp [intOf]; omega⟩
        · have c2' : ¬ (uj : Int) < (m : Int) := by omega
          have HLe : Hid (LV w (.slice ps j cs) ((ys.drop u).take j) wr) := HR.out
          clear HR
          go_wp2_with fail
          go_meet
          case rel => exact ⟨j, cs, ps, by rw [HUJ.out], rfl, huj, HLe.out⟩
      · have HLe : Hid (LV w (.slice ps j cs) ((ys.drop u).take j) wr) := HR.out
        clear HR
        go_wp2_with fail
        go_meet
        case rel => exact ⟨j, cs, ps, by rw [HUJ.out], rfl, huj, HLe.out⟩
  case rest =>
  obtain ⟨j, cs, ps, rfl, rfl, huj, HR⟩ := hcut
  have HL2 : Hid (FB wc (.slice ps j cs) ((ys.drop u).take j) ∧ ((ys.drop u).take j).length = j) := by
    have hln := take_len (ys := ys) (u := u) (j := j) (by rw [HY.out.2]; exact huj)
    exact ⟨own_base HR.out.own (Nat.zero_le _), hln⟩
  have HJ2 : Hid (RJ w0 bp i A k (.slice (some ⟨ga, 0, none⟩) N ca) st x vn vs vals wc) := HJ.out.next HR.out.below
  have hM : (j : Int) ≤ 4398046511104 := by omega
  clear HJ HR
  apply_assumption
  exact tail17 Q w0 bp i A k ga ca N HB hN hkN hk0 hNc st x vn vs vals ((ys.drop u).take j) j ps cs HE wc HJ2 HL2 hM _ _ _ _ _ _ _ _ _ _ _ _ _ _ _ _ _ _ _ _ _ _ _ _ _ _ _ _ _ _ _ _ _ _ _ _ _ _ _ _ _ _ _ _ _ _ _ _ _ _ _ _ _ _ _ _ _ _ _ _ _ _ _ _ _ _ _ _ _ _ _ _ _ _ _ _ _ _ _ _ _ _ _ _ _ _ _ _ _ _ _ _ _ _ _ _ _ _ _ _ _ _ _ _ _ _ _ _ _ _ _ _ _ _ _ _ _ _ _ _ _ _ _ _ _ _ _ _ _ _ _ _ _ _ _ _ _ _ _ _ _ _ _ _ _ _ _ _ _ _ _ _ _ _ _ _ _ _ _ _ _ _ _ _ _ _ _ _ _ _ _ _ _ _ _ _ _ _ _ _ _ _ _ _ _ _ _ _ _ _ _ _ _ _ _ _ _ _ _ _ _ _ _ _ _ _ _ _ _ _ _ _ _ _ _ _ _ _ _ _ _ _ _ _ _ _ _ _ _ _ _ (fun _ _ _ _ _ _ _ _ _ _ _ _ _ _ _ _ _ _ _ _ _ _ _ _ _ _ _ _ _ _ _ _ _ _ _ _ _ _ _ _ _ _ _ _ _ _ _ _ _ _ _ _ _ _ _ _ _ _ _ _ _ _ _ _ _ _ _ _ _ _ _ _ _ _ _ _ _ _ _ _ _ _ _ _ _ _ _ _ _ _ _ _ _ _ _ _ _ _ _ _ _ _ _ _ _ _ _ _ _ _ _ _ _ _ _ _ _ _ _ _ _ _ _ _ _ _ _ _ _ _ _ _ _ _ _ _ _ _ _ _ _ _ _ _ _ _ _ _ _ _ _ _ _ _ _ _ _ _ _ _ _ _ _ _ _ _ _ _ _ _ _ _ _ _ _ _ _ _ _ _ _ _ _ _ _ _ _ _ _ _ _ _ _ _ _ _ k' A' vA' w' h => HQ.out _ _ _ _ _ _ _ _ _ _ _ _ _ _ _ _ _ _ _ _ _ _ _ _ _ _ _ _ _ _ _ _ _ _ _ _ _ _ _ _ _ _ _ _ _ _ _ _ _ _ _ _ _ _ _ _ _ _ _ _ _ _ _ _ _ _ _ _ _ _ _ _ _ _ _ _ _ _ _ _ _ _ _ _ _ _ _ _ _ _ _ _ _ _ _ _ _ _ _ _ _ _ _ _ _ _ _ _ _ _ _ _ _ _ _ _ _ _ _ _ _ _ _ _ _ _ _ _ _ _ _ _ _ _ _ _ _ _ _ _ _ _ _ _ _ _ _ _ _ _ _ _ _ _ _ _ _ _ _ _ _ _ _ _ _ _ _ _ _ _ _ _ _ _ _ _ _ _ _ _ _ _ _ _ _ _ _ _ _ _ _ _ _ _ _ _ _ k' (u + j) A' vA' w' (by omega) h)
end Go.Proofs.YtcekgefkimbfaaaGreatDoor.ps
