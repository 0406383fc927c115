
/- The law SortRows. Conditions: as each theorem says. -/
import Derived.Test.YtehamdkjdbaceaaDoorRh
namespace Go.Proofs.YtehamdkjdbaceaaDoor.so
open Go.RowKit Go.Sort Go.Shelf
theorem pw_eq {α : Type} {R : α → α → Prop} (ass : ∀ a b, R a b → R b a → False) : ∀ {l1 l2 : List α}, l1.Perm l2 → l1.Pairwise R → l2.Pairwise R → l1 = l2
  | [], l2, h, _, _ => by rw [List.nil_perm.1 h]
  | a :: t1, [], h, _, _ => by simp at h
  | a :: t1, b :: t2, h, h1, h2 => by
    have e : a = b := by
      rcases List.mem_cons.1 (h.mem_iff.1 (List.mem_cons_self)) with e | e
      · exact e
      · rcases List.mem_cons.1 (h.mem_iff.2 (List.mem_cons_self)) with e' | e'
        · exact e'.symm
        · exact (ass _ _ ((List.pairwise_cons.1 h1).1 b e') ((List.pairwise_cons.1 h2).1 a e)).elim
    subst e
    rw [pw_eq ass h.cons_inv (List.pairwise_cons.1 h1).2 (List.pairwise_cons.1 h2).2]
theorem tn_as {T : Tb} {n : Nat} {c : Nat → Int} {d : Nat → Bool} (x y : Nat) (h1 : Tn T n c d x y) (h2 : Tn T n c d y x) : False := by
  unfold Tn at *
  have := crw_neg (T.v x) (T.v y) c d n 0
  omega
theorem StN.one {T : Tb} {n : Nat} {c : Nat → Int} {d : Nat → Bool} {Z Z' : List Nat} (h : StN T n c d Z) (h' : StN T n c d Z') : Z = Z' := pw_eq (fun x y => tn_as x y) (h.1.trans h'.1.symm) h.2 h'.2
set_option maxRecDepth 100000 in
set_option maxHeartbeats 8000000 in
theorem sortRows_any (T : Tb) (p : Option Addr) (cp : Nat) (p3 : Option Addr) (n c3 : Nat) (c : Nat → Int) (d : Nat → Bool) (pl : Option Addr) (m cl : Nat) (a : Nat → Int) (w : World) (hT : TM w p T) (hK : KM w p3 n c d) (hI : IM w pl m a) (hq : T.q ≤ 9223372036854775807) (hn : n ≤ 8796093022208) (hm : m ≤ 9223372036854775807) (hL : ∀ i, i < T.q → T.L i ≤ 9223372036854775807) (hg : ErrTy w) :
    Calls Tryd.prog 3 #[.slice p T.q cp, .slice p3 n c3, .slice pl m cl] w fun e w' => e = .returned (.bool true) ∧ Bw w w' := by
  have H1 := rtable_any T p cp w hT hq hL
  have H2 : Hid (∀ wx, Bw w wx → Calls Tryd.prog 6 #[.slice p T.q cp] wx fun e w' => (∃ x, e = .returned (errV x) ∧ TF T x) ∧ Bw wx w') := fun wx hb => check_any T p cp wx (hT.next hb) hq hL
  have H3 : Hid (∀ wx x, Bw w wx → Calls Tryd.prog 7 #[errV x, .int .i64 x] wx fun r w' => r = .returned (.bool true) ∧ Bw wx w') := fun wx x hb => by
    have := rsame_any x x wx (errTy_next hg hb)
    rwa [show (x == x) = true by simp] at this
  have H4 : Hid (∀ wx, Bw w wx → Calls Tryd.prog 9 #[.slice p3 n c3] wx fun e w' => ∃ pv cv, e = .returned (.slice pv n cv) ∧ IM w' pv n c ∧ Bw wx w') := fun wx hb => by
    refine (rcols_any p3 n c3 c d wx (hK.next hb) hn).mono ?_
    rintro e w' ⟨v, rfl, hv⟩
    obtain ⟨pv, cv, rfl, him⟩ := hv.im
    rw [colsL_len] at him ⊢
    exact ⟨pv, cv, rfl, him.congr (fun i hi => colsL_at hi), hv.below⟩
  have H5 : Hid (∀ wx pv cv, Bw w wx → IM wx pv n c → Calls Tryd.prog 8 #[.slice p T.q cp, .slice pv n cv] wx fun e w' => (∃ x, e = .returned (.int .i64 x) ∧ CF T n c x) ∧ Bw wx w') := fun wx pv cv hb hi => rcolumns_any T p cp pv n cv c wx (hT.next hb) hi hq (by omega) hL
  have H6 : Hid (CF T n c 0 → ∀ wx, Bw w wx → Calls Tryd.prog 10 #[.slice p T.q cp, .slice p3 n c3] wx fun e w' => ∃ v, e = .returned v ∧ ∃ Z, StN T n c d Z ∧ IV wx v (natI Z) w') := fun h wx hb => rsort_any T p cp p3 n c3 c d wx (hT.next hb) (hK.next hb) h.zero.1 h.zero.2.1 h.zero.2.2
  have H7 : Hid (∀ wx, Bw w wx → Calls Tryd.prog 12 #[.slice p T.q cp, .slice p3 n c3] wx fun e w' => SO T n c d wx e w') := fun wx hb => sort_any T p cp p3 n c3 c d wx (hT.next hb) (hK.next hb) hq hn hL
  have H8 : Hid (∀ wx, Bw w wx → Calls Tryd.prog 13 #[.slice p T.q cp, .slice p3 n c3, .slice pl m cl] wx fun e w' => SR T n c d m a e ∧ Bw wx w') := fun wx hb => sorted_any T p cp p3 n c3 c d pl m cl a wx (hT.next hb) (hK.next hb) (hI.next hb) hq hn hm hL
  have H9 : Hid (∀ wx pv cv Z, Bw w wx → StN T n c d Z → CF T n c 0 → IM wx pv Z.length (nthN Z) → Calls Tryd.prog 11 #[.slice pl m cl, .slice pv Z.length cv] wx fun e w' => e = .returned (.bool (sameL m a Z.length (nthN Z))) ∧ Bw wx w') := fun wx pv cv Z hb hz hcf hi => rints_any pl m cl a pv Z.length cv (nthN Z) wx (hI.next hb) hi hm (by rw [stn_len hz]; have := hcf.zero.1.few; omega)
  have H10 : Hid (∀ wx pv cv pv' cv' Z, StN T n c d Z → CF T n c 0 → IM wx pv Z.length (nthN Z) → IM wx pv' Z.length (nthN Z) → Calls Tryd.prog 11 #[.slice pv Z.length cv, .slice pv' Z.length cv'] wx fun e w' => e = .returned (.bool true) ∧ Bw wx w') := fun wx pv cv pv' cv' Z hz hcf hi hi' => by
    have h60 : Z.length ≤ 60 := by rw [stn_len hz]; exact hcf.zero.1.few
    have := rints_any pv Z.length cv (nthN Z) pv' Z.length cv' (nthN Z) wx hi hi' (by omega) (by omega)
    rwa [sameI_true.2 ⟨rfl, fun _ _ => rfl⟩] at this
  have H11 : Hid (∀ wx, Calls Tryd.prog 11 #[.slice none 0 0, .slice none 0 0] wx fun e w' => e = .returned (.bool true) ∧ Bw wx w') := fun wx => by
    have := rints_any none 0 0 (fun _ => 0) none 0 0 (fun _ => 0) wx (.inl rfl) (.inl rfl) (by omega) (by omega)
    rwa [sameI_true.2 ⟨rfl, fun _ _ => rfl⟩] at this
  generalize T.q = q at *
  clear hT hK hI hL hg
  go_enter Tryd.func3, Tryd.ntmps3
  go_wp2_with fail
  refine H1.mono ?_
  clear H1
  rintro e w1 ⟨⟨x, rfl, hx⟩, hb1⟩
  have HB1 : Hid (Bw w w1) := hb1
  have HX : Hid (TF T x) := hx
  clear hx hb1
  have G2 := H2.out w1 HB1.out
  go_wp2_with fail
  refine G2.mono ?_
  clear G2
  rintro e w2 ⟨⟨x', rfl, hx'⟩, hb2⟩
  have ex := hx'.one HX.out
  subst ex
  have HB2 : Hid (Bw w w2) := HB1.out.tr hb2
  clear hx' hb2
  have G3 := H3.out w2 x' HB2.out
  generalize errV x' = ev at *
  go_wp2_with fail
  refine G3.mono ?_
  clear G3
  rintro e w3 ⟨rfl, hb3⟩
  have HB3 : Hid (Bw w w3) := HB2.out.tr hb3
  clear hb3
  have G4 := H4.out w3 HB3.out
  go_wp2_with fail
  refine G4.mono ?_
  clear G4
  rintro e w4 ⟨pv, cv, rfl, him, hb4⟩
  have HB4 : Hid (Bw w w4) := HB3.out.tr hb4
  have G5 := H5.out w4 pv cv HB4.out him
  clear hb4 him
  go_wp2_with fail
  refine G5.mono ?_
  clear G5
  rintro e w5 ⟨⟨y, rfl, hy⟩, hb5⟩
  have HB5 : Hid (Bw w w5) := HB4.out.tr hb5
  have HY : Hid (CF T n c y) := hy
  clear hy hb5 HX
  by_cases hy0 : y = 0
  · subst hy0
    have G6 := H6.out HY.out w5 HB5.out
    go_wp2_with fail
    refine G6.mono ?_
    clear G6
    rintro e w6 ⟨v, rfl, Z, hZ, hV⟩
    obtain ⟨pz, cz, rfl, hiz⟩ := hV.im
    have hlz : (natI Z).length = Z.length := by simp
    rw [hlz] at hiz ⊢
    have HZ : Hid (StN T n c d Z) := hZ
    have HB6 : Hid (Bw w w6) := HB5.out.tr hV.below
    have HIZ : Hid (IM w6 pz Z.length (nthN Z)) := hiz
    have G9 := H9.out w6 pz cz Z HB6.out HZ.out HY.out HIZ.out
    obtain ⟨IS, hIS⟩ : ∃ IS, sameL m a Z.length (nthN Z) = IS := ⟨_, rfl⟩
    have HIS : Hid (sameL m a Z.length (nthN Z) = IS) := hIS
    rw [hIS] at G9
    obtain ⟨zl, hzl⟩ : ∃ zl, Z.length = zl := ⟨_, rfl⟩
    have HZL : Hid (Z.length = zl) := hzl
    rw [hzl] at G9 ⊢
    clear hZ hV hiz hlz hIS hzl
    go_wp2_with fail
    refine G9.mono ?_
    clear G9
    rintro e w7 ⟨rfl, hb7⟩
    have HB7 : Hid (Bw w w7) := HB6.out.tr hb7
    have HIZ7 : Hid (IM w7 pz Z.length (nthN Z)) := HIZ.out.next hb7
    clear hb7 HIZ
    have G7 := H7.out w7 HB7.out
    go_wp2_with fail
    refine G7.mono ?_
    clear G7
    rintro e w8 ⟨⟨x, v, rfl, hx, -, hv⟩, hb8⟩
    have ex := hx.one HY.out
    subst ex
    obtain ⟨W, Z2, -, hZ2, hV2⟩ := hv rfl
    have eZ := hZ2.one HZ.out
    subst eZ
    obtain ⟨pg, cg, rfl, hig⟩ := hV2.im
    have hlz : (natI Z2).length = Z2.length := by simp
    rw [hlz] at hig ⊢
    have HB8 : Hid (Bw w w8) := HB7.out.tr hb8
    have HIZ8 : Hid (IM w8 pz Z2.length (nthN Z2)) := HIZ7.out.next hb8
    have HIG8 : Hid (IM w8 pg Z2.length (nthN Z2)) := hig
    rw [HZL.out]
    have G3 := H3.out w8 0 HB8.out
    rw [errV_0] at G3 ⊢
    clear hx hv hZ2 hV2 hig hlz hb8 HIZ7
    go_wp2_with fail
    refine G3.mono ?_
    clear G3
    rintro e w9 ⟨rfl, hb9⟩
    have HB9 : Hid (Bw w w9) := HB8.out.tr hb9
    have G10 := H10.out w9 pg cg pz cz Z2 HZ.out HY.out (HIG8.out.next hb9) (HIZ8.out.next hb9)
    rw [HZL.out] at G10
    clear hb9 HIZ8 HIG8
    go_wp2_with fail
    refine G10.mono ?_
    clear G10
    rintro e w10 ⟨rfl, hb10⟩
    have HB10 : Hid (Bw w w10) := HB9.out.tr hb10
    clear hb10
    have G8 := H8.out w10 HB10.out
    go_wp2_with fail
    refine G8.mono ?_
    clear G8
    rintro e w11 ⟨⟨x, b, rfl, hx, -, hb⟩, hb11⟩
    have ex := hx.one HY.out
    subst ex
    obtain ⟨Z3, hZ3, hb3⟩ := hb rfl
    have eZ := hZ3.one HZ.out
    subst eZ
    rw [HIS.out] at hb3
    subst hb3
    have HB11 : Hid (Bw w w11) := HB10.out.tr hb11
    have G3 := H3.out w11 0 HB11.out
    rw [errV_0] at G3 ⊢
    clear hx hb hZ3 hb11
    go_wp2_with fail
    refine G3.mono ?_
    clear G3
    rintro e w12 ⟨rfl, hb12⟩
    have HB12 : Hid (Bw w w12) := HB11.out.tr hb12
    clear hb12
    go_wp2_with fail
    go_ret
    exact ⟨by simp, HB12.out⟩
  · have G7 := H7.out w5 HB5.out
    go_wp2_with fail
    refine G7.mono ?_
    clear G7
    rintro e w8 ⟨⟨x, v, rfl, hx, hv, -⟩, hb8⟩
    have ex := hx.one HY.out
    subst ex
    have ev0 := hv hy0
    subst ev0
    have HB8 : Hid (Bw w w8) := HB5.out.tr hb8
    have G3 := H3.out w8 x HB8.out
    have G8' := fun wx hb => H8.out wx hb
    clear hx hv hb8
    obtain ⟨ev2, hev2⟩ : ∃ ev2, errV x = ev2 := ⟨_, rfl⟩
    have HEV : Hid (errV x = ev2) := hev2
    rw [hev2] at G3 ⊢
    clear hev2
    go_wp2_with fail
    refine G3.mono ?_
    clear G3
    rintro e w9 ⟨rfl, hb9⟩
    have HB9 : Hid (Bw w w9) := HB8.out.tr hb9
    clear hb9
    have G11 := H11.out w9
    go_wp2_with fail
    refine G11.mono ?_
    clear G11
    rintro e w10 ⟨rfl, hb10⟩
    have HB10 : Hid (Bw w w10) := HB9.out.tr hb10
    clear hb10
    have G8 := H8.out w10 HB10.out
    clear G8'
    go_wp2_with fail
    refine G8.mono ?_
    clear G8
    rintro e w11 ⟨⟨x2, b, rfl, hx2, hb, -⟩, hb11⟩
    have ex := hx2.one HY.out
    subst ex
    have hb0 := hb hy0
    subst hb0
    have HB11 : Hid (Bw w w11) := HB10.out.tr hb11
    have G3 := H3.out w11 x2 HB11.out
    rw [HEV.out] at G3 ⊢
    clear hx2 hb hb11
    go_wp2_with fail
    refine G3.mono ?_
    clear G3
    rintro e w12 ⟨rfl, hb12⟩
    have HB12 : Hid (Bw w w12) := HB11.out.tr hb12
    clear hb12
    go_wp2_with fail
    go_ret
    exact ⟨by simp, HB12.out⟩
end Go.Proofs.YtehamdkjdbaceaaDoor.so
