
/- The law FormatSigns from its reading back on, walked. Conditions: as each theorem says. -/
import Derived.Test.YtnelglmbckgbgaaDoorFya
import Derived.Test.YtnelglmbckgbgaaDoorFwe
import Derived.Laws.StructEq
import Derived.Lib.ItoaMem
import Derived.Lib.AppendIntMem
import Derived.Lib.SmallJoins
import Derived.Shelf.SlSortCmp.QuietGrown
namespace Go.Proofs.YtnelglmbckgbgaaDoor.fw
open Go.RowKit Go.Sort
abbrev VV (k n : Int) (s : ByteArray) : Value := .agg #[.int .i64 k, .int .i64 n, .string s]
theorem eqInV (k n : Int) (s : ByteArray) (k' n' : Int) (s' : ByteArray) (W : World) : (Op.equalIn 10000 35 (VV k n s) (VV k' n' s')).run Tryd.prog W = .ok (k == k' && n == n' && s.toList == s'.toList) W := by
  have hS : Tryd.prog.underlying 35 = some (.struct (Tryd.prog.fieldsOf 35)) := by kernel_rfl
  have hp : Tryd.prog.stoodInHeld 35 = false := by kernel_rfl
  rw [run_equalIn_struct W 9999 35 _ _ hS hp]
  simp only [Program.fieldsOf, Tryd.underlying35]
  by_cases h1 : k = k' <;> by_cases h2 : n = n' <;> by_cases h3 : s.toList = s'.toList <;> simp [Op.eqFields, go_sem, h1, h2, h3]
theorem eqlV (k n : Int) (s : ByteArray) (k' n' : Int) (s' : ByteArray) (W : World) : (binOp BinOp.eql 35 (VV k n s) (VV k' n' s')).run Tryd.prog W = .ok (.bool (k == k' && n == n' && s.toList == s'.toList)) W := by
  rw [run_eql_struct, eqInV]; rfl
theorem guardV : Tryd.prog.eqGuardType Tryd.prog.depth 35 = false := by kernel_rfl
theorem rnum_gr (n : Int) (w : World) : Calls Tryd.prog 12 #[.int .i64 n] w fun e w' => e = .returned (VV 1 n ⟨#[]⟩) ∧ ∃ m os, w' = grow (w.drewN m) os := by
  go_enter Tryd.func12, Tryd.ntmps12
  go_wp2_with fail
  exact bodyPost_ret (v := VV 1 n ⟨#[]⟩) (by simp [results, Tryd.results12, go_sem]) rfl ⟨rfl, 0, _, alloc_eq_grow _ _⟩
theorem mixed : Tryd.prog.follows Departure.mixedOrders = true := by kernel_rfl
theorem grow_bw (w : World) (n : Nat) (os : Array Obj) : Bw w (grow (w.drewN n) os) := Lib.below_grow _ w (Nat.le_refl _) n os
theorem cell_at {w : World} {b o : Nat} {v : Value} (hb : b < w.heap.size) (h : w.cell? ⟨b, o, none⟩ = some v) (m : Nat) (os : Array Obj) : (grow (w.drewN m) os).cell? ⟨b, o, none⟩ = some v := by
  rw [(grow_bw w m os).cell (p := ⟨b, o, none⟩) hb]
  exact h
noncomputable def stail24C : Code := ((Tryd.f4.body.bind (findSeq 24)).getD .skip)
set_option maxRecDepth 1000000 in
set_option maxHeartbeats 8000000 in
theorem stail24 (n : Int) (z i0 pl : Nat) (c : Bool) (S : ByteArray) (sd sg D b0 : List UInt8) (v0 : Value) (w0 w : World) (hS : S.size ≤ 200) (hi0 : i0 ≤ S.size) (hpl : z ≤ pl) (hpl2 : pl ≤ 100) (hsd : sd ≠ []) (hsd2 : sd.length ≤ 40)
    (HL : Hid (LR c pl sd sg D S.toList i0 0 false b0)) (HV : Hid (BV w0 v0 b0 w))
    (HR : Hid (∀ wx, Bw w0 wx → Calls Tryd.prog 13 #[.string (txt sd)] wx fun e w' => e = .returned (VV 1 n ⟨#[]⟩) ∧ Bw wx w'))
    (l3 l4 l5 l6 l7 l8 l9 l10 l12 l16 l17 l18 l19 l20 l21 l22 l23 l24 l25 l26 l27 l28 l29 l30 l31 l32 l33 l34 l35 l36 l37 l38 l39 l40 l41 l42 l43 l44 l45 l46 l47 l48 l49 l50 l51 l52 l53 l54 l55 l56 l57 l58 l59 l60 l61 l62 l63 l64 l65 l66 l67 l68 l69 l70 l71 l72 l73 l74 l75 l76 l77 l78 l79 l80 l81 l82 l83 l84 l85 l86 l87 l88 l89 l90 l91 l92 l93 l94 l95 l96 l97 l98 l99 l100 l101 l102 l103 l104 l105 l106 l107 l108 l109 l110 l111 l112 l113 : Value) :
    Code.wp Tryd.prog stail24C (bodyPost Tryd.prog Tryd.f4 fun e w' => e = .returned (.bool true) ∧ Bw w0 w') ⟨#[.int .i64 n, .int .i64 (z : Int), .bool c, l3, l4, l5, l6, l7, l8, l9, l10, .string S, l12, v0, .int .i64 0, .int .i64 (i0 : Int), l16, l17, l18, l19, l20, l21, l22, l23, l24, l25, l26, l27, l28, l29, l30, l31, l32, l33, l34, l35, l36, l37, l38, l39, l40, l41, l42, l43, l44, l45, l46, l47, l48, l49, l50, l51, l52, l53, l54, l55, l56, l57, l58, l59, l60, l61, l62, l63, l64, l65, l66, l67, l68, l69, l70, l71, l72, l73, l74, l75, l76, l77, l78, l79, l80, l81, l82, l83, l84, l85, l86, l87, l88, l89, l90, l91, l92, l93, l94, l95, l96, l97, l98, l99, l100, l101, l102, l103, l104, l105, l106, l107, l108, l109, l110, l111, l112, l113], []⟩ w := by
  dsimp only
  conv => arg 2; whnf
  let BPX := bodyPost Tryd.prog Tryd.f4 (fun _ _ => True)
  have HSL : Hid (S.toList.length = S.size) := size_list S
  go_upto_block 2 with fail
  go_cut [13, 14] (fun s13 s14 wx => s14 = .int .i64 (pl : Int) ∧ Hid (BV w0 s13 sd wx))
  case first =>
    go_wp2_with fail
    go_loopw [13, 14, 15, 16] (fun s13 s14 s15 s16 wr => ∃ (i dn : Nat) (G : Bool) (b : List UInt8), s15 = .int .i64 (i : Int) ∧ s14 = .int .i64 (dn : Int) ∧ s16 = .bool G ∧ i ≤ S.size ∧ Hid (LR c pl sd sg D S.toList i dn G b) ∧ Hid (BV w0 s13 b wr)) (fun _ _ s15 _ _ => S.size - (intOf s15).toNat)
    case atStart => exact ⟨i0, 0, false, b0, rfl, rfl, rfl, hi0, HL, HV⟩
    case round =>
      obtain ⟨i, dn, G, b, rfl, rfl, rfl, hi, HLR, HB⟩ := hrel
      clear HL HV
      by_cases hlt : i < S.size
      · have hlt' : (i : Int) < (S.size : Int) := by omega
        have hi0' : (0 : Int) ≤ (i : Int) := by omega
        have hat := at_list hlt
        have hsm := lr_small HLR.out
        have hdn : dn ≤ 100 := by omega
        have hst := lr_step HLR.out hat
        rw [HSL.out] at hst
        have hne : ∀ y : Nat, y < 256 → (S[i] ≠ UInt8.ofNat y) → ((S[i].toNat : Int) == (y : Int)) = false := fun y hy h => by
          simp only [beq_eq_false_iff_ne]
          intro e
          apply h
          apply UInt8.toNat_inj.1
          rw [UInt8.toNat_ofNat', Nat.mod_eq_of_lt hy]
          omega
        rcases hst with ⟨h44, hc, h4, hnx⟩ | ⟨h44, hA, hE, hG, hF⟩
        · have HNX : Hid (LR c pl sd sg D S.toList (i + 1) dn G b) := hnx
          have hx : ((S[i].toNat : Int) == 44) = true := by rw [h44]; rfl
          have er : ((S.size : Int) - (i : Int)).tmod 4 = 0 := by rw [Int.tmod_eq_emod_of_nonneg (by omega)]; omega
          subst hc
          clear hat HLR h44 hnx hne hsm
          go_wp2_with fail
          exact ⟨⟨i + 1, dn, G, b, rfl, rfl, rfl, hlt, HNX, HB⟩, by simp [intOf]; omega⟩
        · have hx : ((S[i].toNat : Int) == 44) = false := hne 44 (by omega) h44
          by_cases h48 : S[i] = 48
          · have hx8 : ((S[i].toNat : Int) == 48) = true := by rw [h48]; rfl
            have H48 : Hid ((S[i].toNat : Int) = 48) := by show _ = _; rw [h48]; rfl
            by_cases hend : i + 1 = S.size
            · have HNX : Hid (LR c pl sd sg D S.toList (i + 1) (dn + 1) true (b ++ [S[i]])) := hE hend
              have he : (i : Int) = (S.size : Int) - 1 := by omega
              have he2 : ((i : Int) == (S.size : Int) - 1) = true := by simp; omega
              clear hat HLR h44 hne h48 hA hE hG hF he
              obtain ⟨p, cc, e7, -⟩ := HB.out.form
              subst e7
              obtain ⟨g2, c2, w3, hr, hV3⟩ := HB.out.one (by omega) S[i]
              have HV3 : Hid (BV w0 (.slice (some ⟨g2, 0, none⟩) (b.length + 1) c2) (b ++ [S[i]]) w3) := hV3
              rw [H48.out] at hr
              have HRR : Hid ((Builtin.append_ #[37, 37] 37 #[.slice p b.length cc, .slice (some ⟨wr.heap.size, 0, none⟩) 1 1]).run Tryd.prog (wr.alloc (.cells #[.int .u8 48] 5)) = .ok (.slice (some ⟨g2, 0, none⟩) (b.length + 1) c2) w3) := hr
              clear hr hV3 HB hsm
              generalize b.length = bl at *
              go_wp2_with (first | (at_builtin; refine wpList_append_eq rfl _ _ 37 37 rfl _ _ _ _ rfl rfl HRR.out ?_))
              exact ⟨⟨i + 1, dn + 1, true, b ++ [S[i]], rfl, rfl, rfl, hlt, HNX, HV3⟩, by simp [intOf]; omega⟩
            · have he2 : ((i : Int) == (S.size : Int) - 1) = false := by simp; omega
              cases G with
              | true =>
                have HNX : Hid (LR c pl sd sg D S.toList (i + 1) (dn + 1) true (b ++ [S[i]])) := hG rfl
                clear hat HLR h44 hne h48 hA hE hG hF
                obtain ⟨p, cc, e7, -⟩ := HB.out.form
                subst e7
                obtain ⟨g2, c2, w3, hr, hV3⟩ := HB.out.one (by omega) S[i]
                have HV3 : Hid (BV w0 (.slice (some ⟨g2, 0, none⟩) (b.length + 1) c2) (b ++ [S[i]]) w3) := hV3
                rw [H48.out] at hr
                have HRR : Hid ((Builtin.append_ #[37, 37] 37 #[.slice p b.length cc, .slice (some ⟨wr.heap.size, 0, none⟩) 1 1]).run Tryd.prog (wr.alloc (.cells #[.int .u8 48] 5)) = .ok (.slice (some ⟨g2, 0, none⟩) (b.length + 1) c2) w3) := hr
                clear hr hV3 HB hsm
                generalize b.length = bl at *
                go_wp2_with (first | (at_builtin; refine wpList_append_eq rfl _ _ 37 37 rfl _ _ _ _ rfl rfl HRR.out ?_))
                exact ⟨⟨i + 1, dn + 1, true, b ++ [S[i]], rfl, rfl, rfl, hlt, HNX, HV3⟩, by simp [intOf]; omega⟩
              | false =>
                have HNX : Hid (LR c pl sd sg D S.toList (i + 1) (dn + 1) false b) := hF rfl h48 hend
                clear hat HLR h44 hne h48 hA hE hG hF hsm
                go_wp2_with fail
                exact ⟨⟨i + 1, dn + 1, false, b, rfl, rfl, rfl, hlt, HNX, HB⟩, by simp [intOf]; omega⟩
          · have hx8 : ((S[i].toNat : Int) == 48) = false := hne 48 (by omega) h48
            have HNX : Hid (LR c pl sd sg D S.toList (i + 1) (dn + 1) true (b ++ [S[i]])) := hA h48
            clear hat HLR h44 hne h48 hA hE hG hF
            obtain ⟨p, cc, e7, -⟩ := HB.out.form
            subst e7
            obtain ⟨g2, c2, w3, hr, hV3⟩ := HB.out.one (by omega) S[i]
            have HV3 : Hid (BV w0 (.slice (some ⟨g2, 0, none⟩) (b.length + 1) c2) (b ++ [S[i]]) w3) := hV3
            have HRR : Hid ((Builtin.append_ #[37, 37] 37 #[.slice p b.length cc, .slice (some ⟨wr.heap.size, 0, none⟩) 1 1]).run Tryd.prog (wr.alloc (.cells #[.int .u8 (S[i].toNat : Int)] 5)) = .ok (.slice (some ⟨g2, 0, none⟩) (b.length + 1) c2) w3) := hr
            clear hr hV3 HB hsm
            generalize b.length = bl at *
            go_wp2_with (first | (at_builtin; refine wpList_append_eq rfl _ _ 37 37 rfl _ _ _ _ rfl rfl HRR.out ?_))
            exact ⟨⟨i + 1, dn + 1, true, b ++ [S[i]], rfl, rfl, rfl, hlt, HNX, HV3⟩, by simp [intOf]; omega⟩
      · have hlt' : ¬ (i : Int) < (S.size : Int) := by omega
        obtain ⟨e1, e2⟩ := lr_end HLR.out (by rw [HSL.out]; omega)
        subst e1 e2
        go_wp2_with fail
        go_meet
        case rel => exact ⟨rfl, HB⟩
  case rest =>
  obtain ⟨rfl, HB⟩ := hcut
  clear HL HV
  apply_assumption
  obtain ⟨p, cc, e7, hform⟩ := HB.out.form
  obtain ⟨g, rfl⟩ : ∃ g, p = some ⟨g, 0, none⟩ := by
    rcases hform with ⟨h, -, -⟩ | ⟨g, rfl, -⟩
    · exact absurd (List.eq_nil_of_length_eq_zero h) hsd
    · exact ⟨g, rfl⟩
  subst e7
  have hcv := HB.out.text sd.length cc (Nat.le_refl _)
  rw [List.take_length] at hcv
  have HB0 : Hid (Bw w0 wc) := HB.out.below
  have hrd := HR.out wc HB0.out
  generalize txt sd = T at *
  generalize sd.length = sl at *
  clear HB hform
  go_wp2_with fail
  refine hrd.mono ?_
  rintro e w3 ⟨rfl, hb3⟩
  have HB3 : Hid (Bw w0 (w3.alloc (.cells #[.int .i64 1, .int .i64 n, .string ⟨#[]⟩] 35))) := (HB0.out.tr hb3).tr (Bw.al _ _)
  clear hb3 hrd HB0 HR
  go_upto_region 37 with fail
  have hlt3 : w3.heap.size < (w3.alloc (.cells #[.int .i64 1, .int .i64 n, .string ⟨#[]⟩] 35)).heap.size := by simp
  have a0 : (w3.alloc (.cells #[.int .i64 1, .int .i64 n, .string ⟨#[]⟩] 35)).cell? ⟨w3.heap.size, 0, none⟩ = some (.int .i64 1) := by simp
  have a1 : (w3.alloc (.cells #[.int .i64 1, .int .i64 n, .string ⟨#[]⟩] 35)).cell? ⟨w3.heap.size, 1, none⟩ = some (.int .i64 n) := by simp
  have a2 : (w3.alloc (.cells #[.int .i64 1, .int .i64 n, .string ⟨#[]⟩] 35)).cell? ⟨w3.heap.size, 2, none⟩ = some (.string ⟨#[]⟩) := by simp
  generalize (w3.alloc (.cells #[.int .i64 1, .int .i64 n, .string ⟨#[]⟩] 35)) = w4 at *
  generalize w3.heap.size = g4 at *
  have b0 := fun m os => cell_at hlt3 a0 m os
  have b1 := fun m os => cell_at hlt3 a1 m os
  have b2 := fun m os => cell_at hlt3 a2 m os
  have hc := fun m os => rnum_gr n (grow (w4.drewN m) os)
  have heq : ∀ W, (binOp BinOp.eql 35 (VV 1 n ⟨#[]⟩) (VV 1 n ⟨#[]⟩)).run Tryd.prog W = .ok (.bool true) W := fun W => by
    have := eqlV 1 n ⟨#[]⟩ 1 n ⟨#[]⟩ W
    simpa using this
  have hgv := guardV
  have mixed := mixed
  have hge : (pl : Int) ≥ (z : Int) := by omega
  have hge2 : decide (z ≤ pl) = true := by simp; omega
  clear a0 a1 a2 hlt3
  go_quiet_grown (first | (go_at_call 12; refine Calls.grown_of (hc _ _)))
  have HB5 : Hid (Bw w0 (grow (w4.drewN nq) osq)) := HB3.out.tr (grow_bw _ _ _)
  clear b0 b1 b2 hc
  generalize grow (w4.drewN nq) osq = w5 at *
  go_wp2_with fail
  go_ret
  exact ⟨rfl, HB5.out⟩
end Go.Proofs.YtnelglmbckgbgaaDoor.fw
