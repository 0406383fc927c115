/- The law: many at once are one. Conditions: as each theorem says. -/
import Derived.Test.YtcekgefkimbfaaaGreatDoorJj
import Derived.Test.YtcekgefkimbfaaaGreatDoorXd
import Derived.Test.YtcekgefkimbfaaaGreatDoorJa
import Derived.ProofKit
import Derived.OpenShut
import Derived.Deep.Slices
import Derived.Deep.Strs
import Derived.Lib.SmallJoins
import Derived.Lay
import Derived.Test.YtcekgefkimbfaaaGreatDoorJb
import Derived.Test.YtcekgefkimbfaaaGreatDoorAs
import Derived.Test.YtcekgefkimbfaaaGreatDoorTie
import Derived.Test.YtcekgefkimbfaaaGreatDoorCards
import Derived.LaidMore
import Derived.LaidSub
import Derived.Stop.Joined
import Derived.SevenTiedAt
import Derived.Stop.LaidErr
import Derived.Lib.LaidTab
import Derived.ReadAgain
import Derived.ChangeOld
import Derived.Handed
import Derived.Below
import Derived.SizedLaws
import Derived.Shelf.Vars
import Derived.MakeChecks
namespace Go.Proofs.YtcekgefkimbfaaaGreatDoor.ps
open Go.RowKit
open adr (C)
theorem told_nil {t : Int} (h : Told [] t) : t = 0 := by
  rcases h with ⟨h1, -⟩ | ⟨-, ⟨h1, -⟩ | ⟨-, i, h1, -⟩⟩
  · simp at h1
  · exact h1
  · simp at h1
set_option maxHeartbeats 1600000 in
theorem cell_any (a b : Int) (w : World) : Calls Tryz.prog 19 #[.int .i64 a, .int .i64 b] w fun e w' => e = .returned (C a b) ∧ Below w.heap.size w w' := by
  go_enter Tryz.func19, Tryz.ntmps19
  go_wp2_with fail
  obtain ⟨e0, e1⟩ := cells2 (heap_alloc_new w (.cells #[.int .i64 a, .int .i64 b] 34))
  exact bodyPost_ret (v := C a b) (by simp [results, Tryz.results19, go_sem, e0, e1]) rfl ⟨rfl, (Below.refl _ _).alloc (Nat.le_refl _) _⟩
abbrev YC (w : World) (g o : Nat) (f : Fl) (wx : World) : Prop := wx.cell? ⟨g, o, none⟩ = some (.int .i64 f.c) ∧ wx.cell? ⟨g, o + 1, none⟩ = some (.int .i64 f.r) ∧ wx.cell? ⟨g, o + 2, none⟩ = some (.string f.s) ∧ Below w.heap.size w wx
set_option maxHeartbeats 1600000 in
theorem now_blk (bp : Nat) (xs : List Fl) (vn vs kv : Value) (w : World) (h : w.heap[bp]? = some (.cells #[vn, vs, kv] 58 (0, 0))) (hf : FB w vn xs) (hl : xs.length ≤ 1000) :
    Calls Tryz.prog 17 #[.pointer (some ⟨bp, 0, none⟩)] w fun e w' => (∃ v, e = .returned v ∧ FB w' v xs) ∧ Below w.heap.size w w' := by
  obtain ⟨p, c, rfl, hm, hc, hn⟩ := hf.full
  have HC : Hid (Calls Tryz.prog 25 #[.slice p xs.length c] w fun e w' => (∃ v, e = .returned v ∧ w'.ownsRow w.heap.size 36 3 v xs.length (flF xs)) ∧ Below w.heap.size w w') := clone_any p c xs w hm (by omega) hn
  obtain ⟨c0, c1, c2⟩ := cells3 h
  clear h hm hc hn hf
  go_enter Tryz.func17, Tryz.ntmps17
  go_wp2_with fail
  refine HC.out.mono ?_
  rintro e w1 ⟨⟨v, rfl, ho⟩, hb⟩
  go_wp2_with fail
  go_ret
  exact ⟨⟨v, rfl, own_base ho (Nat.zero_le _)⟩, hb⟩
theorem fb_fm {w : World} {p : Option Addr} {n c : Nat} {xs : List Fl} (h : FB w (.slice p n c) xs) : FM w p xs := by
  obtain ⟨p', c', e, hm, -⟩ := h.full
  injection e with e1 _ _
  subst e1
  exact hm
theorem shE {w : World} {p q : Option Addr} {c d : Nat} {xs : List Fl} (h1 : FM w p xs) (h2 : FM w q xs) (hl : xs.length ≤ 200) : Calls Tryz.prog 16 #[.slice p xs.length c, .slice q xs.length d] w fun e w' => e = .returned (.bool true) ∧ Below w.heap.size w w' :=
  (sheets_any p q c d xs xs w h1 h2 (by omega) (by omega)).mono (fun e w' ⟨⟨b, e1, e2⟩, e3⟩ => ⟨by rw [e1, e2.2 rfl], e3⟩)
theorem shN {w : World} {p q : Option Addr} {c d : Nat} {xs ys : List Fl} (h1 : FM w p xs) (h2 : FM w q ys) (hl : xs.length ≤ 200) (hl2 : ys.length ≤ 200) (hn : xs ≠ ys) : Calls Tryz.prog 16 #[.slice p xs.length c, .slice q ys.length d] w fun e w' => e = .returned (.bool false) ∧ Below w.heap.size w w' :=
  (sheets_any p q c d xs ys w h1 h2 (by omega) (by omega)).mono (fun e w' ⟨⟨b, e1, e2⟩, e3⟩ => ⟨by cases b with
    | true => exact absurd (e2.1 rfl) hn
    | false => exact e1, e3⟩)
def fx : Fl := ⟨1, 1, ⟨#[120]⟩⟩
def fy : Fl := ⟨2, 1, ⟨#[121]⟩⟩
theorem sck_const {f : Fl} (h1 : adr.isC f.c f.r = true) (h2 : f.s.size ≠ 0) (h3 : f.s.size ≤ 200) (h4 : eqS f.s = false) : SCk f 0 := by
  refine .inr ⟨h2, .inr ⟨by simp, .inl ⟨rfl, fun i hi => ?_⟩⟩⟩
  have e : i = 0 := by simp at hi; exact hi
  subst e
  rw [cd_text (x := f) rfl h1 (by first | rfl | decide), ckT_const h2 h3 h4]
theorem sck_two : ∀ f ∈ [fx, fy], SCk f 0 := by
  intro f hf
  simp at hf
  rcases hf with rfl | rfl
  · exact sck_const (by decide) (by decide) (by decide) (by decide +kernel)
  · exact sck_const (by decide) (by decide) (by decide) (by decide +kernel)
theorem fm_two (W : World) : FM (W.alloc (.cells #[.int .i64 1, .int .i64 1, .string ⟨#[120]⟩, .int .i64 2, .int .i64 1, .string ⟨#[121]⟩] 36)) (some ⟨W.heap.size, 0, none⟩) [fx, fy] := by
  have h := heap_alloc_new W (.cells #[.int .i64 1, .int .i64 1, .string ⟨#[120]⟩, .int .i64 2, .int .i64 1, .string ⟨#[121]⟩] 36)
  refine .inr ⟨W.heap.size, 0, rfl, fm.lt_blk h, fun t u hu => ?_⟩
  rw [fm.cell_blk h, Nat.zero_add]
  match t, hu with
  | 0, e => exact e
  | 1, e => exact e
  | 2, e => exact e
  | 3, e => exact e
  | 4, e => exact e
  | 5, e => exact e
  | t + 6, e => cases e
theorem two_at : [fx, fy].foldl wt [] = [fx, fy] := rfl
noncomputable def tail22C : Code := ((Tryz.f4.body.bind (findTail 22)).getD .skip)
set_option maxRecDepth 1000000 in
set_option maxHeartbeats 8000000 in
theorem end_same (w : World) (p : Option Addr) (c n : Nat) (xs Z : List Fl) (HX : Hid (FM w p xs)) (HN : Hid (xs.length = n)) (HXl : Hid (xs.length ≤ 200)) (HZ : Hid (Z.length ≤ 200)) (bp bq : Nat) (HBq : Hid (w.heap.size ≤ bq)) (w7 : World) (HNo : Hid (Calls Tryz.prog 17 #[.pointer (some ⟨bp, 0, none⟩)] w7 fun e w' => (∃ v, e = .returned v ∧ FB w' v Z) ∧ Below w7.heap.size w7 w'))
    (vnq : Value) (H7 : Hid (Below w.heap.size w w7 ∧ Z = xs ∧ PS w7 bq xs [] 0 vnq (.slice none 0 0)))
    (l1 l2 l3 l4 l5 l6 l7 l8 l9 l10 l12 l14 l15 l16 l18 l19 l20 l21 l22 l23 l24 l25 l26 l27 l28 l29 l30 l31 l32 l33 l34 l35 l36 l37 l38 l39 l40 l41 l42 l43 l44 l45 l46 l47 l48 l49 l50 l51 l52 l53 l54 l55 l56 l57 l58 l59 l60 l61 l62 l63 l64 l65 l66 l67 l68 l69 l70 l71 l72 l73 l74 l75 l76 l77 l78 l79 l80 l81 l82 l83 l84 l85 l86 l87 l88 l89 l90 l91 l92 l93 l94 l95 l96 l97 l98 l99 l100 l101 l102 l103 l104 l105 l106 l107 l108 l109 l110 l111 l112 l113 l114 l115 l116 l117 l118 l119 l120 l121 l122 l123 l124 l125 l126 l127 l128 l129 l130 l131 l132 l133 l134 l135 l136 l137 l138 l139 l140 l141 l142 l143 l144 l145 l146 l147 l148 : Value) :
    Code.wp Tryz.prog tail22C (bodyPost Tryz.prog Tryz.f4 fun e w' => e = .returned (.bool true) ∧ Below w.heap.size w w') ⟨#[.slice p n c, l1, l2, l3, l4, l5, l6, l7, l8, l9, l10, .pointer (some ⟨bp, 0, none⟩), l12, .pointer (some ⟨bq, 0, none⟩), l14, l15, l16, .nilIface, l18, l19, l20, l21, l22, l23, l24, l25, l26, l27, l28, l29, l30, l31, l32, l33, l34, l35, l36, l37, l38, l39, l40, l41, l42, l43, l44, l45, l46, l47, l48, l49, l50, l51, l52, l53, l54, l55, l56, l57, l58, l59, l60, l61, l62, l63, l64, l65, l66, l67, l68, l69, l70, l71, l72, l73, l74, l75, l76, l77, l78, l79, l80, l81, l82, l83, l84, l85, l86, l87, l88, l89, l90, l91, l92, l93, l94, l95, l96, l97, l98, l99, l100, l101, l102, l103, l104, l105, l106, l107, l108, l109, l110, l111, l112, l113, l114, l115, l116, l117, l118, l119, l120, l121, l122, l123, l124, l125, l126, l127, l128, l129, l130, l131, l132, l133, l134, l135, l136, l137, l138, l139, l140, l141, l142, l143, l144, l145, l146, l147, l148], []⟩ w7 := by
  have _h0 := HX; have _h1 := HN; have _h2 := HXl; have _h3 := HZ; have _h4 := HBq; have _h5 := HNo
  clear _h0 _h1 _h2 _h3 _h4 _h5
  dsimp only
  conv => arg 2; whnf
  go_wp2_with fail
  refine HNo.out.mono ?_
  rintro e w8 ⟨⟨v, rfl, hv⟩, hb8⟩
  obtain ⟨pa, ca, rfl, -⟩ := hv.full
  have H8 : Hid (FB w8 (.slice pa Z.length ca) Z ∧ Below w.heap.size w w8) := ⟨hv, bnext H7.out.1 hb8 H7.out.1.size⟩
  obtain ⟨-, hZ0, hps⟩ := H7.out
  obtain ⟨vq, hvq⟩ : ∃ vq, vnq = vq := ⟨_, rfl⟩
  obtain ⟨vsq, hvsq⟩ : ∃ vsq, Value.slice none 0 0 = vsq := ⟨_, rfl⟩
  have HQ8 : Hid (PS w8 bq Z [] 0 vq vsq ∧ FB w8 (.slice pa Z.length ca) Z ∧ Below w.heap.size w w8) := ⟨by rw [hZ0, ← hvq, ← hvsq]; exact hps.next hb8, H8.out⟩
  have hZx : Hid (Z = xs) := hZ0
  clear hZ0
  clear hv hb8 hps H7 H8 HNo hvq hvsq
  have HNq : Hid (Calls Tryz.prog 17 #[.pointer (some ⟨bq, 0, none⟩)] w8 fun e w' => (∃ v, e = .returned v ∧ FB w' v Z) ∧ Below w8.heap.size w8 w') := now_any bq Z [] 0 vq vsq w8 HQ8.out.1 (by have := HZ.out; omega)
  go_wp2_with fail
  refine HNq.out.mono ?_
  rintro e w9 ⟨⟨v, rfl, hv9⟩, hb9⟩
  obtain ⟨pb, cb, rfl, -⟩ := hv9.full
  have H9 : Hid (PS w9 bq Z [] 0 vq vsq ∧ FB w9 (.slice pa Z.length ca) Z ∧ FB w9 (.slice pb Z.length cb) Z ∧ Below w.heap.size w w9) := ⟨HQ8.out.1.next hb9, HQ8.out.2.1.below hb9, hv9, bnext HQ8.out.2.2 hb9 HQ8.out.2.2.size⟩
  clear hv9 hb9 HNq HQ8
  have HSh : Hid (Calls Tryz.prog 16 #[.slice pa Z.length ca, .slice pb Z.length cb] w9 fun e w' => e = .returned (.bool true) ∧ Below w9.heap.size w9 w') := shE (fb_fm H9.out.2.1) (fb_fm H9.out.2.2.1) HZ.out
  go_wp2_with fail
  refine HSh.out.mono ?_
  rintro e w10 ⟨rfl, hb10⟩
  have H10 : Hid (PS w10 bq Z [] 0 vq vsq ∧ FB w10 (.slice pa Z.length ca) Z ∧ Below w.heap.size w w10) := ⟨H9.out.1.next hb10, H9.out.2.1.below hb10, bnext H9.out.2.2.2 hb10 H9.out.2.2.2.size⟩
  clear hb10 HSh H9
  have HDe : Hid (Calls Tryz.prog 18 #[.pointer (some ⟨bq, 0, none⟩)] w10 fun e w' => e = .returned (.tuple #[.int .i64 0, .int .i64 0]) ∧ Below w10.heap.size w10 w') := (depth_any bq Z [] 0 vq vsq w10 H10.out.1 (by simp) (by simp)).mono (fun e w' ⟨e1, e2⟩ => ⟨by rw [e1]; rfl, e2⟩)
  go_wp2_with fail
  refine HDe.out.mono ?_
  rintro e w11 ⟨rfl, hb11⟩
  have H11 : Hid (PS w11 bq Z [] 0 vq vsq ∧ Below w.heap.size w w11) := ⟨H10.out.1.next hb11, bnext H10.out.2.2 hb11 H10.out.2.2.size⟩
  have HSm : Hid (Calls Tryz.prog 16 #[.slice pa Z.length ca, .slice p n c] w11 fun e w' => e = .returned (.bool true) ∧ Below w11.heap.size w11 w') := by
    have h := fb_fm (H10.out.2.1.below hb11)
    rw [hZx.out] at h ⊢
    have := shE (c := ca) (d := c) h (HX.out.below H11.out.2) HXl.out
    rw [HN.out] at this ⊢
    exact this
  clear hb11 HDe H10
  go_wp2_with fail
  refine HSm.out.mono ?_
  rintro e w12 ⟨rfl, hb12⟩
  have HUn : Hid (Calls Tryz.prog 9 #[.pointer (some ⟨bq, 0, none⟩)] w12 fun e w' => e = .returned (.bool false) ∧ (∃ k' vn', PS w' bq xs [] k' vn' vsq) ∧ Below w.heap.size w w') := by
    have hps := H11.out.1.next hb12
    have hB := bnext H11.out.2 hb12 H11.out.2.size
    exact (undo_no bq Z [] vq vsq w12 hps).mono (fun e w' ⟨e1, e2⟩ => ⟨e1, ⟨0, vq, by rw [e2, ← hZx.out]; exact hps⟩, by rw [e2]; exact hB⟩)
  clear hb12 HSm H11
  go_wp2_with fail
  refine HUn.out.mono ?_
  rintro e w13 ⟨rfl, ⟨k', vn', hps13⟩, hb13⟩
  have HNl : Hid (Calls Tryz.prog 17 #[.pointer (some ⟨bq, 0, none⟩)] w13 fun e w' => (∃ v, e = .returned v ∧ FB w' v xs) ∧ Below w13.heap.size w13 w') := now_any bq xs [] k' vn' vsq w13 hps13 (by have := HXl.out; omega)
  have H13 : Hid (Below w.heap.size w w13) := hb13
  clear hps13 hb13 HUn
  go_wp2_with fail
  refine HNl.out.mono ?_
  rintro e w14 ⟨⟨v, rfl, hv14⟩, hb14⟩
  obtain ⟨pl, cl, rfl, -⟩ := hv14.full
  have H14 : Hid (Below w.heap.size w w14) := bnext H13.out hb14 H13.out.size
  have HSl : Hid (Calls Tryz.prog 16 #[.slice pl xs.length cl, .slice p n c] w14 fun e w' => e = .returned (.bool true) ∧ Below w14.heap.size w14 w') := by
    have := shE (c := cl) (d := c) (fb_fm hv14) (HX.out.below H14.out) HXl.out
    rw [HN.out] at this ⊢
    exact this
  clear hv14 hb14 HNl
  go_wp2_with fail
  refine HSl.out.mono ?_
  rintro e w15 ⟨rfl, hb15⟩
  have H15 : Hid (Below w.heap.size w w15) := bnext H14.out hb15 H14.out.size
  clear hb15 HSl
  go_wp2_with fail
  go_ret
  exact ⟨rfl, H15.out⟩
set_option maxRecDepth 1000000 in
set_option maxHeartbeats 8000000 in
theorem end_other (w : World) (p : Option Addr) (c n : Nat) (xs Z : List Fl) (HX : Hid (FM w p xs)) (HN : Hid (xs.length = n)) (HXl : Hid (xs.length ≤ 200)) (HZ : Hid (Z.length ≤ 200)) (bp bq : Nat) (HBq : Hid (w.heap.size ≤ bq)) (w7 : World) (HNo : Hid (Calls Tryz.prog 17 #[.pointer (some ⟨bp, 0, none⟩)] w7 fun e w' => (∃ v, e = .returned v ∧ FB w' v Z) ∧ Below w7.heap.size w7 w'))
    (s7 : St) (vq vsq : Value) (H7 : Hid (Below w.heap.size w w7 ∧ Z ≠ xs ∧ PS w7 bq Z [s7] 1 vq vsq ∧ wl s7.a Z = xs ∧ s7.a.length ≤ 50000))
    (l1 l2 l3 l4 l5 l6 l7 l8 l9 l10 l12 l14 l15 l16 l18 l19 l20 l21 l22 l23 l24 l25 l26 l27 l28 l29 l30 l31 l32 l33 l34 l35 l36 l37 l38 l39 l40 l41 l42 l43 l44 l45 l46 l47 l48 l49 l50 l51 l52 l53 l54 l55 l56 l57 l58 l59 l60 l61 l62 l63 l64 l65 l66 l67 l68 l69 l70 l71 l72 l73 l74 l75 l76 l77 l78 l79 l80 l81 l82 l83 l84 l85 l86 l87 l88 l89 l90 l91 l92 l93 l94 l95 l96 l97 l98 l99 l100 l101 l102 l103 l104 l105 l106 l107 l108 l109 l110 l111 l112 l113 l114 l115 l116 l117 l118 l119 l120 l121 l122 l123 l124 l125 l126 l127 l128 l129 l130 l131 l132 l133 l134 l135 l136 l137 l138 l139 l140 l141 l142 l143 l144 l145 l146 l147 l148 : Value) :
    Code.wp Tryz.prog tail22C (bodyPost Tryz.prog Tryz.f4 fun e w' => e = .returned (.bool true) ∧ Below w.heap.size w w') ⟨#[.slice p n c, l1, l2, l3, l4, l5, l6, l7, l8, l9, l10, .pointer (some ⟨bp, 0, none⟩), l12, .pointer (some ⟨bq, 0, none⟩), l14, l15, l16, .nilIface, l18, l19, l20, l21, l22, l23, l24, l25, l26, l27, l28, l29, l30, l31, l32, l33, l34, l35, l36, l37, l38, l39, l40, l41, l42, l43, l44, l45, l46, l47, l48, l49, l50, l51, l52, l53, l54, l55, l56, l57, l58, l59, l60, l61, l62, l63, l64, l65, l66, l67, l68, l69, l70, l71, l72, l73, l74, l75, l76, l77, l78, l79, l80, l81, l82, l83, l84, l85, l86, l87, l88, l89, l90, l91, l92, l93, l94, l95, l96, l97, l98, l99, l100, l101, l102, l103, l104, l105, l106, l107, l108, l109, l110, l111, l112, l113, l114, l115, l116, l117, l118, l119, l120, l121, l122, l123, l124, l125, l126, l127, l128, l129, l130, l131, l132, l133, l134, l135, l136, l137, l138, l139, l140, l141, l142, l143, l144, l145, l146, l147, l148], []⟩ w7 := by
  have _h0 := HX; have _h1 := HN; have _h2 := HXl; have _h3 := HZ; have _h4 := HBq; have _h5 := HNo
  clear _h0 _h1 _h2 _h3 _h4 _h5
  dsimp only
  conv => arg 2; whnf
  go_wp2_with fail
  refine HNo.out.mono ?_
  rintro e w8 ⟨⟨v, rfl, hv⟩, hb8⟩
  obtain ⟨pa, ca, rfl, -⟩ := hv.full
  have H8 : Hid (FB w8 (.slice pa Z.length ca) Z ∧ Below w.heap.size w w8) := ⟨hv, bnext H7.out.1 hb8 H7.out.1.size⟩
  obtain ⟨-, hZx, hps, hs1, hs2⟩ := H7.out
  have HQ8 : Hid (PS w8 bq Z [s7] 1 vq vsq ∧ FB w8 (.slice pa Z.length ca) Z ∧ Below w.heap.size w w8) := ⟨hps.next hb8, H8.out⟩
  have HS7 : Hid (wl s7.a Z = xs ∧ s7.a.length ≤ 50000) := ⟨hs1, hs2⟩
  have hZx : Hid (Z ≠ xs) := hZx
  clear hv hb8 hps H7 H8 HNo hs1 hs2
  have HNq : Hid (Calls Tryz.prog 17 #[.pointer (some ⟨bq, 0, none⟩)] w8 fun e w' => (∃ v, e = .returned v ∧ FB w' v Z) ∧ Below w8.heap.size w8 w') := now_any bq Z [s7] 1 vq vsq w8 HQ8.out.1 (by have := HZ.out; omega)
  go_wp2_with fail
  refine HNq.out.mono ?_
  rintro e w9 ⟨⟨v, rfl, hv9⟩, hb9⟩
  obtain ⟨pb, cb, rfl, -⟩ := hv9.full
  have H9 : Hid (PS w9 bq Z [s7] 1 vq vsq ∧ FB w9 (.slice pa Z.length ca) Z ∧ FB w9 (.slice pb Z.length cb) Z ∧ Below w.heap.size w w9) := ⟨HQ8.out.1.next hb9, HQ8.out.2.1.below hb9, hv9, bnext HQ8.out.2.2 hb9 HQ8.out.2.2.size⟩
  clear hv9 hb9 HNq HQ8
  have HSh : Hid (Calls Tryz.prog 16 #[.slice pa Z.length ca, .slice pb Z.length cb] w9 fun e w' => e = .returned (.bool true) ∧ Below w9.heap.size w9 w') := shE (fb_fm H9.out.2.1) (fb_fm H9.out.2.2.1) HZ.out
  go_wp2_with fail
  refine HSh.out.mono ?_
  rintro e w10 ⟨rfl, hb10⟩
  have H10 : Hid (PS w10 bq Z [s7] 1 vq vsq ∧ FB w10 (.slice pa Z.length ca) Z ∧ Below w.heap.size w w10) := ⟨H9.out.1.next hb10, H9.out.2.1.below hb10, bnext H9.out.2.2.2 hb10 H9.out.2.2.2.size⟩
  clear hb10 HSh H9
  have HDe : Hid (Calls Tryz.prog 18 #[.pointer (some ⟨bq, 0, none⟩)] w10 fun e w' => e = .returned (.tuple #[.int .i64 1, .int .i64 0]) ∧ Below w10.heap.size w10 w') := (depth_any bq Z [s7] 1 vq vsq w10 H10.out.1 (by simp) (by simp)).mono (fun e w' ⟨e1, e2⟩ => ⟨by rw [e1]; rfl, e2⟩)
  go_wp2_with fail
  refine HDe.out.mono ?_
  rintro e w11 ⟨rfl, hb11⟩
  have H11 : Hid (PS w11 bq Z [s7] 1 vq vsq ∧ Below w.heap.size w w11) := ⟨H10.out.1.next hb11, bnext H10.out.2.2 hb11 H10.out.2.2.size⟩
  have HSm : Hid (Calls Tryz.prog 16 #[.slice pa Z.length ca, .slice p n c] w11 fun e w' => e = .returned (.bool false) ∧ Below w11.heap.size w11 w') := by
    have := shN (c := ca) (d := c) (fb_fm (H10.out.2.1.below hb11)) (HX.out.below H11.out.2) HZ.out HXl.out hZx.out
    rw [HN.out] at this
    exact this
  clear hb11 HDe H10
  go_wp2_with fail
  refine HSm.out.mono ?_
  rintro e w12 ⟨rfl, hb12⟩
  have HUn : Hid (Calls Tryz.prog 9 #[.pointer (some ⟨bq, 0, none⟩)] w12 fun e w' => e = .returned (.bool true) ∧ (∃ k' vn', PS w' bq xs [s7] k' vn' vsq) ∧ Below w.heap.size w w') := by
    have hps := H11.out.1.next hb12
    have hB := bnext H11.out.2 hb12 H11.out.2.size
    exact (undo_yes bq Z [s7] 0 s7 vq vsq w12 hps rfl HS7.out.2 (by have := HZ.out; omega) (by simp)).mono (fun e w' ⟨e1, ⟨vn', e2⟩, e3⟩ => ⟨e1, ⟨0, vn', by rw [← HS7.out.1]; exact e2⟩, hB.trans (e3.below.mono HBq.out)⟩)
  clear hb12 HSm H11
  go_wp2_with fail
  refine HUn.out.mono ?_
  rintro e w13 ⟨rfl, ⟨k', vn', hps13⟩, hb13⟩
  have HNl : Hid (Calls Tryz.prog 17 #[.pointer (some ⟨bq, 0, none⟩)] w13 fun e w' => (∃ v, e = .returned v ∧ FB w' v xs) ∧ Below w13.heap.size w13 w') := now_any bq xs [s7] k' vn' vsq w13 hps13 (by have := HXl.out; omega)
  have H13 : Hid (Below w.heap.size w w13) := hb13
  clear hps13 hb13 HUn
  go_wp2_with fail
  refine HNl.out.mono ?_
  rintro e w14 ⟨⟨v, rfl, hv14⟩, hb14⟩
  obtain ⟨pl, cl, rfl, -⟩ := hv14.full
  have H14 : Hid (Below w.heap.size w w14) := bnext H13.out hb14 H13.out.size
  have HSl : Hid (Calls Tryz.prog 16 #[.slice pl xs.length cl, .slice p n c] w14 fun e w' => e = .returned (.bool true) ∧ Below w14.heap.size w14 w') := by
    have := shE (c := cl) (d := c) (fb_fm hv14) (HX.out.below H14.out) HXl.out
    rw [HN.out] at this ⊢
    exact this
  clear hv14 hb14 HNl
  go_wp2_with fail
  refine HSl.out.mono ?_
  rintro e w15 ⟨rfl, hb15⟩
  have H15 : Hid (Below w.heap.size w w15) := bnext H14.out hb15 H14.out.size
  clear hb15 HSl
  go_wp2_with fail
  go_ret
  exact ⟨rfl, H15.out⟩
set_option maxRecDepth 100000 in
set_option maxHeartbeats 8000000 in
theorem groups_any (p q : Option Addr) (c d : Nat) (xs ys : List Fl) (w : World) (hx : FM w p xs) (hy : FM w q ys) (hE : EnvP w) (hc : p = none → c = 0) (hd : q = none → d = 0) :
    Calls Tryz.prog 4 #[.slice p xs.length c, .slice q ys.length d] w fun e w' => e = .returned (.bool true) ∧ Below w.heap.size w w' := by
  have HN1 : Hid (Calls Tryz.prog 7 #[.slice none 0 0] w fun e w' => (∃ ptr t, e = .returned (.tuple #[ptr, errV t]) ∧ Told [] t ∧ NW w [] t ptr w') ∧ Below w.heap.size w w') := new_any none 0 [] w (.inl rfl) hE (fun _ => rfl)
  have HX : Hid (FM w p xs ∧ FM w q ys ∧ EnvP w ∧ (p = none → c = 0) ∧ (q = none → d = 0)) := ⟨hx, hy, hE, hc, hd⟩
  obtain ⟨m, hm⟩ : ∃ m, ys.length = m := ⟨_, rfl⟩
  have HM : Hid (ys.length = m) := hm
  obtain ⟨n, hn⟩ : ∃ n, xs.length = n := ⟨_, rfl⟩
  have HN : Hid (xs.length = n) := hn
  rw [hm, hn]
  clear hx hy hE hm hc hd hn
  go_enter Tryz.func4, Tryz.ntmps4
  go_wp2_with fail
  refine HN1.out.mono ?_
  rintro e w1 ⟨⟨ptr, t, rfl, ht, hw⟩, hb1⟩
  obtain rfl := told_nil ht
  rcases hw with ⟨h, -⟩ | ⟨-, b1, vn1, rfl, hb1', hps1⟩
  · exact absurd rfl h
  rw [errV_zero]
  have HD1 : Hid (Calls Tryz.prog 18 #[.pointer (some ⟨b1, 0, none⟩)] w1 fun e w' => e = .returned (.tuple #[.int .i64 0, .int .i64 0]) ∧ Below w1.heap.size w1 w') := (depth_any b1 [] [] 0 vn1 _ w1 hps1 (by simp) (by simp)).mono (fun e w' ⟨e1, e2⟩ => ⟨by rw [e1]; rfl, e2⟩)
  have HP1 : Hid (PS w1 b1 [] [] 0 vn1 (.slice none 0 0) ∧ Below w.heap.size w w1 ∧ w.heap.size ≤ b1) := ⟨hps1, hb1, hb1'⟩
  clear hps1 hb1 hb1' HN1 ht
  go_wp2_with fail
  refine HD1.out.mono ?_
  rintro e w2 ⟨rfl, hb2⟩
  have HP2 : Hid (PS w2 b1 [] [] 0 vn1 (.slice none 0 0) ∧ Below w.heap.size w w2 ∧ w.heap.size ≤ b1) := ⟨HP1.out.1.next hb2, bnext HP1.out.2.1 hb2 HP1.out.2.1.size, HP1.out.2.2⟩
  clear HP1 HD1 hb2
  go_wp2_with fail
  refine (cell_any 1 1 w2).mono ?_
  rintro e w3 ⟨rfl, hb3⟩
  go_wp2_with fail
  refine (cell_any 2 1 w3).mono ?_
  rintro e w4 ⟨rfl, hb4⟩
  have hB4 : Below w2.heap.size w2 w4 := bnext hb3 hb4 hb3.size
  have HP4 : Hid (PS w4 b1 [] [] 0 vn1 (.slice none 0 0) ∧ Below w.heap.size w w4 ∧ w.heap.size ≤ b1) := ⟨HP2.out.1.next hB4, bnext HP2.out.2.1 hB4 HP2.out.2.1.size, HP2.out.2.2⟩
  clear HP2 hb3 hb4 hB4
  have hb5 : Below w4.heap.size w4 (w4.alloc (.cells #[.int .i64 1, .int .i64 1, .string ⟨#[120]⟩, .int .i64 2, .int .i64 1, .string ⟨#[121]⟩] 36)) := (Below.refl _ _).alloc (Nat.le_refl _) _
  have hG := group_any b1 [] [] 0 (Nat.le_refl _) vn1 (.slice none 0 0) (some ⟨w4.heap.size, 0, none⟩) 2 [fx, fy] (w4.alloc (.cells #[.int .i64 1, .int .i64 1, .string ⟨#[120]⟩, .int .i64 2, .int .i64 1, .string ⟨#[121]⟩] 36)) (HP4.out.1.next hb5) (by simp) (by simp) (by simp [Srt]) (fm_two w4) (by simp) (fun e => by cases e) (HX.out.2.2.1.below (bnext HP4.out.2.1 hb5 HP4.out.2.1.size) HX.out.2.2.1.size)
  have HG : Hid (Calls Tryz.prog 15 #[.pointer (some ⟨b1, 0, none⟩), .slice (some ⟨w4.heap.size, 0, none⟩) 2 2] (w4.alloc (.cells #[.int .i64 1, .int .i64 1, .string ⟨#[120]⟩, .int .i64 2, .int .i64 1, .string ⟨#[121]⟩] 36)) fun e w' => e = .returned .nilIface ∧ (∃ s vn' vs', PS w' b1 [fx, fy] [s] 1 vn' vs') ∧ Below w.heap.size w w') := hG.mono (fun e w' ⟨t, e1, e2, e3⟩ => by
    obtain ⟨rfl, h⟩ := e3.group (by simp [Srt]) (fun x hx => by cases hx) sck_two (by rw [two_at]; simp)
    rw [two_at] at h
    rcases h with ⟨h, -⟩ | ⟨-, s, vn', vs', h, -⟩
    · cases h
    · exact ⟨e1, ⟨s, vn', vs', h⟩, (bnext HP4.out.2.1 hb5 HP4.out.2.1.size).trans (e2.below.mono HP4.out.2.2)⟩)
  clear hb5 hG HP4
  go_wp2_with fail
  refine HG.out.mono ?_
  rintro e w5 ⟨rfl, ⟨s5, vn5, vs5, hps5⟩, hb5⟩
  have HD5 : Hid (Calls Tryz.prog 18 #[.pointer (some ⟨b1, 0, none⟩)] w5 fun e w' => e = .returned (.tuple #[.int .i64 1, .int .i64 0]) ∧ Below w5.heap.size w5 w') := (depth_any b1 [fx, fy] [s5] 1 vn5 vs5 w5 hps5 (by simp) (by simp)).mono (fun e w' ⟨e1, e2⟩ => ⟨by rw [e1]; rfl, e2⟩)
  have HB5 : Hid (Below w.heap.size w w5) := hb5
  clear hps5 hb5 HG
  go_wp2_with fail
  refine HD5.out.mono ?_
  rintro e w6 ⟨rfl, hb6⟩
  have HB6 : Hid (Below w.heap.size w w6) := bnext HB5.out hb6 HB5.out.size
  clear hb6 HB5 HD5
  have HN6 : Hid (Calls Tryz.prog 7 #[.slice p n c] w6 fun e w' => (∃ ptr t, e = .returned (.tuple #[ptr, errV t]) ∧ Told xs t ∧ NW w6 xs t ptr w') ∧ Below w6.heap.size w6 w') := by
    have := new_any p c xs w6 (HX.out.1.below HB6.out) (HX.out.2.2.1.below HB6.out HX.out.2.2.1.size) HX.out.2.2.2.1
    rw [HN.out] at this
    exact this
  go_wp2_with fail
  refine HN6.out.mono ?_
  rintro e w7 ⟨⟨ptr, t, rfl, ht, hw7⟩, hb7⟩
  have HB7 : Hid (Below w.heap.size w w7 ∧ Told xs t ∧ NW w6 xs t ptr w7) := ⟨bnext HB6.out hb7 HB6.out.size, ht, hw7⟩
  have HS6 : Hid (w.heap.size ≤ w6.heap.size) := HB6.out.size
  have HN7 : Hid (Calls Tryz.prog 7 #[.slice p n c] w7 fun e w' => (∃ ptr2, e = .returned (.tuple #[ptr2, errV t]) ∧ NW w7 xs t ptr2 w') ∧ Below w7.heap.size w7 w') := by
    have := new_any p c xs w7 (HX.out.1.below HB7.out.1) (HX.out.2.2.1.below HB7.out.1 HX.out.2.2.1.size) HX.out.2.2.2.1
    rw [HN.out] at this
    refine this.mono ?_
    rintro e w' ⟨⟨ptr2, t2, rfl, h2, h3⟩, h4⟩
    obtain rfl := h2.one HB7.out.2.1
    exact ⟨⟨ptr2, rfl, h3⟩, h4⟩
  clear ht hw7 hb7 HN6 HB6
  by_cases h0 : t = 0
  · subst h0
    rw [errV_zero] at HN7 ⊢
    obtain ⟨bp, vnp, rfl, hbp, hpsp⟩ : ∃ bp vn, ptr = .pointer (some ⟨bp, 0, none⟩) ∧ w6.heap.size ≤ bp ∧ PS w7 bp xs [] 0 vn (.slice none 0 0) := by
      rcases HB7.out.2.2 with ⟨h, -⟩ | ⟨-, h⟩
      · exact absurd rfl h
      · exact h
    have HPp : Hid (w6.heap.size ≤ bp ∧ PS w7 bp xs [] 0 vnp (.slice none 0 0)) := ⟨hbp, hpsp⟩
    clear hbp hpsp
    go_wp2_with fail
    refine HN7.out.mono ?_
    rintro e w8 ⟨⟨ptr2, rfl, hw8⟩, hb8⟩
    obtain ⟨bq, vnq, rfl, hbq, hpsq⟩ : ∃ bq vn, ptr2 = .pointer (some ⟨bq, 0, none⟩) ∧ w7.heap.size ≤ bq ∧ PS w8 bq xs [] 0 vn (.slice none 0 0) := by
      rcases hw8 with ⟨h, -⟩ | ⟨-, h⟩
      · exact absurd rfl h
      · exact h
    have HP8 : Hid (PS w8 bp xs [] 0 vnp (.slice none 0 0) ∧ PS w8 bq xs [] 0 vnq (.slice none 0 0) ∧ bq ≠ bp ∧ Below w.heap.size w w8 ∧ w.heap.size ≤ bp ∧ w.heap.size ≤ bq ∧ Fine xs) := ⟨HPp.out.2.next hb8, hpsq, by have := HPp.out.2.lt; omega, bnext HB7.out.1 hb8 HB7.out.1.size, by have := HPp.out.1; have := HS6.out; omega, by have := HB7.out.1.size; omega, HB7.out.2.1.fine⟩
    have HXl : Hid (xs.length ≤ 200) := HP8.out.2.2.2.2.2.2.len
    clear hw8 hb8 hbq hpsq HPp HB7 HN7 HS6
    by_cases h60 : m ≤ 60
    · have h60' : (m : Int) ≤ 60 := by omega
      go_wp2_with fail
      go_loopw [15] (fun a wr => ∃ (i : Nat) (st : List St) (vn vs : Value), a = .int .i64 i ∧ i ≤ m ∧ Hid (st.length ≤ i ∧ PS wr bp ((ys.take i).foldl wt xs) st st.length vn vs ∧ PS wr bq xs [] 0 vnq (.slice none 0 0) ∧ (∀ f ∈ ys.take i, SCk f 0) ∧ ((ys.take i).foldl wt xs).length ≤ 200 ∧ Below w.heap.size w wr)) (fun a _ => m - (intOf a).toNat)
      case atStart => exact ⟨0, [], _, _, rfl, Nat.zero_le _, ⟨Nat.le_refl _, HP8.out.1, HP8.out.2.1, fun f hf => by simp at hf, HP8.out.2.2.2.2.2.2.len, HP8.out.2.2.2.1⟩⟩
      case round =>
        obtain ⟨i, st, vn5, vs5, rfl, him, HR⟩ := hrel
        have HSF : Hid (Srt xs ∧ Ful xs ∧ bq ≠ bp ∧ w.heap.size ≤ bp ∧ w.heap.size ≤ bq) := ⟨HP8.out.2.2.2.2.2.2.srt, fun x hx => (HP8.out.2.2.2.2.2.2.cell x hx).2.1, HP8.out.2.2.1, HP8.out.2.2.2.2.1, HP8.out.2.2.2.2.2.1⟩
        clear HP8
        have hi0 : (0 : Int) ≤ (i : Int) := by omega
        by_cases h1 : i < m
        · have h1' : (i : Int) < (m : Int) := by omega
          obtain ⟨f, hf⟩ : ∃ f, ys[i]? = some f := ⟨_, List.getElem?_eq_getElem (by rw [HM.out]; exact h1)⟩
          obtain ⟨gy, oy, rfl, hgy⟩ := HX.out.2.1.at hf
          obtain ⟨q0, q1, q2⟩ := FM.cells (HX.out.2.1.below (HR.out.2.2.2.2.2.drew)) hf
          have HFI : Hid (ys[i]? = some f) := hf
          have HSet : Hid (Calls Tryz.prog 14 #[.pointer (some ⟨bp, 0, none⟩), C f.c f.r, .string f.s] wr.drew fun e w' => ∃ v t, e = .returned v ∧ v = errV t ∧ KP bp wr.drew w' ∧ GO bp ((ys.take i).foldl wt xs) st st.length [f] vn5 vs5 t w') := set_any bp ((ys.take i).foldl wt xs) st st.length (Nat.le_refl _) vn5 vs5 f wr.drew (HR.out.2.1.next (Below.refl _ _).drew) (by have := HR.out.1; omega) HR.out.2.2.2.2.1 (foldl_srt HSF.out.1 _) (HX.out.2.2.1.below HR.out.2.2.2.2.2.drew HX.out.2.2.1.size)
          clear hf
          have h0d : YC w gy (oy + i * 3) f wr.drew := ⟨q0, q1, q2, HR.out.2.2.2.2.2.drew⟩
          have SOF : Hid (∀ wx, Below w.heap.size w wx → YC w gy (oy + i * 3) f wx) := fun wx hb => by
            have e := fun o => (hb.cell (p := ⟨gy, o, none⟩) hgy).trans (HR.out.2.2.2.2.2.drew.cell (p := ⟨gy, o, none⟩) hgy).symm
            exact ⟨(e _).trans q0, (e _).trans q1, (e _).trans q2, hb⟩
          clear q0 q1 q2
          go_wp2_with fail
          go_region_held3 (fun wx => YC w gy (oy + i * 3) f wx) (first | exact h0d | exact SOF.out _ hB6) (first | (go_at_call 14; refine HSet.out.mono ?_; rintro e w6 ⟨v, t, rfl, rfl, hk, hg⟩; have hB6 : Below w.heap.size w w6 := HR.out.2.2.2.2.2.drew.trans (hk.below.mono HSF.out.2.2.2.1)))
          all_goals
            have HK : Hid (KP bp wr.drew w6 ∧ GO bp ((ys.take i).foldl wt xs) st st.length [f] vn5 vs5 t w6 ∧ Below w.heap.size w w6) := ⟨hk, hg, hB6⟩
            clear h0d SOF HSet hk hg hB6
            by_cases h0 : t = 0
            · subst h0
              rw [errV_zero]
              go_wp2_with fail
              obtain ⟨k1, k2, st', vn', vs', k3, k4⟩ := HK.out.2.1.set (foldl_srt HSF.out.1 _) (foldl_ful HSF.out.2.1 _) HR.out.2.2.2.2.1
              refine ⟨⟨i + 1, st', vn', vs', rfl, h1, ⟨by have := HR.out.1; omega, ?_, ?_, ?_, ?_, HK.out.2.2⟩⟩, by simp [intOf]; omega⟩
              · rw [foldl_next HFI.out]; exact k3
              · exact (HR.out.2.2.1.next (Below.refl _ _).drew).other HK.out.1 HSF.out.2.2.1
              · intro g hg
                rw [List.take_add_one, HFI.out, List.mem_append] at hg
                rcases hg with hg | hg
                · exact HR.out.2.2.2.1 g hg
                · have e : g = f := by simpa using hg
                  subst e
                  exact k1
              · rw [foldl_next HFI.out]; exact k2
            · have hV := errV_some h0
              rw [hV]
              clear h0 hV
              go_wp2_with fail
              go_ret
              exact ⟨rfl, HK.out.2.2⟩
        · have h1' : ¬ (i : Int) < (m : Int) := by omega
          have e : i = m := by omega
          subst e
          have e : ys.take i = ys := by rw [← HM.out]; exact List.take_length
          obtain ⟨Z, hZ⟩ : ∃ Z, ys.foldl wt xs = Z := ⟨_, rfl⟩
          have HZ : Hid (PS wr bp Z st st.length vn5 vs5 ∧ PS wr bq xs [] 0 vnq (.slice none 0 0) ∧ Z.length ≤ 200 ∧ Below w.heap.size w wr ∧ ys.foldl wt xs = Z ∧ ∀ f ∈ ys, SCk f 0) := by
            obtain ⟨a1, a2, a3, a4, a5, a6⟩ := HR.out
            rw [e] at a2 a4 a5
            rw [hZ] at a2 a5
            exact ⟨a2, a3, a5, a6, hZ, a4⟩
          have HG : Hid (Calls Tryz.prog 15 #[.pointer (some ⟨bq, 0, none⟩), .slice q i d] wr fun e w' => e = .returned .nilIface ∧ KP bq wr w' ∧ ((Z = xs ∧ PS w' bq xs [] 0 vnq (.slice none 0 0)) ∨ (Z ≠ xs ∧ ∃ s vn' vs', PS w' bq Z [s] 1 vn' vs' ∧ wl s.a Z = xs ∧ s.a.length ≤ 50000))) := by
            have hG := group_any bq xs [] 0 (Nat.le_refl _) vnq (.slice none 0 0) q d ys wr HZ.out.2.1 (by simp) (by have := HN.out; exact HXl.out) HSF.out.1 (HX.out.2.1.below HZ.out.2.2.2.1) (by rw [HM.out]; omega) HX.out.2.2.2.2 (HX.out.2.2.1.below HZ.out.2.2.2.1 HX.out.2.2.1.size)
            rw [HM.out] at hG
            refine hG.mono ?_
            rintro e w' ⟨t, rfl, e2, e3⟩
            obtain ⟨rfl, h⟩ := e3.group HSF.out.1 HSF.out.2.1 HZ.out.2.2.2.2.2 (by rw [HZ.out.2.2.2.2.1]; exact HZ.out.2.2.1)
            rw [HZ.out.2.2.2.2.1] at h
            exact ⟨rfl, e2, h⟩
          clear e hZ HR
          go_upto_region 21 with fail
          go_cut [17] (fun s17 w7 => s17 = .nilIface ∧ KP bq wr w7 ∧ Hid ((Z = xs ∧ PS w7 bq xs [] 0 vnq (.slice none 0 0)) ∨ (Z ≠ xs ∧ ∃ s vn' vs', PS w7 bq Z [s] 1 vn' vs' ∧ wl s.a Z = xs ∧ s.a.length ≤ 50000)))
          case first =>
            go_wp2_with fail
            refine HG.out.mono ?_
            rintro e w7 ⟨rfl, hk7, hq7⟩
            have HQ7 : Hid (KP bq wr w7 ∧ ((Z = xs ∧ PS w7 bq xs [] 0 vnq (.slice none 0 0)) ∨ (Z ≠ xs ∧ ∃ s vn' vs', PS w7 bq Z [s] 1 vn' vs' ∧ wl s.a Z = xs ∧ s.a.length ≤ 50000))) := ⟨hk7, hq7⟩
            clear hk7 hq7
            go_wp2_with fail
            go_meet
            case rel => exact ⟨rfl, HQ7.out.1, HQ7.out.2⟩
          case rest =>
          generalize wc = w7 at *
          obtain ⟨rfl, hk7, hq7'⟩ := hcut
          have hq7 := hq7'.out
          clear hq7'
          have HNo : Hid (Calls Tryz.prog 17 #[.pointer (some ⟨bp, 0, none⟩)] w7 fun e w' => (∃ v, e = .returned v ∧ FB w' v Z) ∧ Below w7.heap.size w7 w') := now_blk bp Z vn5 vs5 _ w7 (hk7.oth _ _ _ (fun e => HSF.out.2.2.1 e.symm) HZ.out.1.blk) (HZ.out.1.now.kp hk7) (by have := HZ.out.2.2.1; omega)
          have H7 : Hid (Below w.heap.size w w7 ∧ ((Z = xs ∧ PS w7 bq xs [] 0 vnq (.slice none 0 0)) ∨ (Z ≠ xs ∧ ∃ s vn' vs', PS w7 bq Z [s] 1 vn' vs' ∧ wl s.a Z = xs ∧ s.a.length ≤ 50000))) := ⟨HZ.out.2.2.2.1.trans (hk7.below.mono HSF.out.2.2.2.2), hq7⟩
          have HXp : Hid (FM w p xs) := HX.out.1
          have HZl : Hid (Z.length ≤ 200) := HZ.out.2.2.1
          have HBq : Hid (w.heap.size ≤ bq) := HSF.out.2.2.2.2
          clear hk7 hq7 HG HZ HSF HX
          apply_assumption
          rcases H7.out.2 with ⟨hZx, hps⟩ | ⟨hZx, s7, vq, vsq, hps, hs1, hs2⟩
          · exact end_same w p c n xs Z HXp HN HXl HZl bp bq HBq w7 HNo vnq ⟨H7.out.1, hZx, hps⟩ _ _ _ _ _ _ _ _ _ _ _ _ _ _ _ _ _ _ _ _ _ _ _ _ _ _ _ _ _ _ _ _ _ _ _ _ _ _ _ _ _ _ _ _ _ _ _ _ _ _ _ _ _ _ _ _ _ _ _ _ _ _ _ _ _ _ _ _ _ _ _ _ _ _ _ _ _ _ _ _ _ _ _ _ _ _ _ _ _ _ _ _ _ _ _ _ _ _ _ _ _ _ _ _ _ _ _ _ _ _ _ _ _ _ _ _ _ _ _ _ _ _ _ _ _ _ _ _ _ _ _ _ _ _ _ _ _ _ _ _ _ _ _ _ _
          · exact end_other w p c n xs Z HXp HN HXl HZl bp bq HBq w7 HNo s7 vq vsq ⟨H7.out.1, hZx, hps, hs1, hs2⟩ _ _ _ _ _ _ _ _ _ _ _ _ _ _ _ _ _ _ _ _ _ _ _ _ _ _ _ _ _ _ _ _ _ _ _ _ _ _ _ _ _ _ _ _ _ _ _ _ _ _ _ _ _ _ _ _ _ _ _ _ _ _ _ _ _ _ _ _ _ _ _ _ _ _ _ _ _ _ _ _ _ _ _ _ _ _ _ _ _ _ _ _ _ _ _ _ _ _ _ _ _ _ _ _ _ _ _ _ _ _ _ _ _ _ _ _ _ _ _ _ _ _ _ _ _ _ _ _ _ _ _ _ _ _ _ _ _ _ _ _ _ _ _ _ _
    · have h60' : (60 : Int) < (m : Int) := by omega
      go_wp2_with fail
      go_ret
      exact ⟨rfl, HP8.out.2.2.2.1⟩
  · have H0 : Hid (t ≠ 0) := h0
    rw [errV_some h0] at HN7 ⊢
    clear h0
    obtain ⟨rfl⟩ : ptr = .pointer none := by
      rcases HB7.out.2.2 with ⟨-, h⟩ | ⟨h, -⟩
      · exact h
      · exact absurd h H0.out
    go_wp2_with fail
    refine HN7.out.mono ?_
    rintro e w8 ⟨⟨ptr2, rfl, hw8⟩, hb8⟩
    obtain ⟨rfl⟩ : ptr2 = .pointer none := by
      rcases hw8 with ⟨-, h⟩ | ⟨h, -⟩
      · exact h
      · exact absurd h H0.out
    have HB8 : Hid (Below w.heap.size w w8) := bnext HB7.out.1 hb8 HB7.out.1.size
    clear hw8 hb8
    go_wp2_with fail
    go_ret
    exact ⟨rfl, HB8.out⟩
end Go.Proofs.YtcekgefkimbfaaaGreatDoor.ps
/- Lists of cells with their texts that were handed in lie in memory as the walks ask. Conditions: as each theorem says. -/
namespace Go.Proofs.YtcekgefkimbfaaaGreatDoor.ps
open Go.ChangeShapes Go.WideShapes Go.ChangeAt Go.RowKit
theorem vcof3 : Tryz.prog.cellsOf 3 = 1 := by kernel_rfl
theorem vcof9 : Tryz.prog.cellsOf 9 = 1 := by kernel_rfl
theorem vcof30 : Tryz.prog.cellsOf 34 = 2 := by kernel_rfl
theorem vcof33 : Tryz.prog.cellsOf 36 = 3 := by kernel_rfl
theorem add_plain (g o k : Nat) : (⟨g, o, none⟩ : Addr).add k = ⟨g, o + k, none⟩ := by
  unfold Addr.add
  by_cases h : k = 0 <;> simp [h]
theorem l2 {α : Type} {l : List α} (h : l.length = 2) : ∃ a b, l = [a, b] := by
  match l, h with
  | [a, b], _ => exact ⟨a, b, rfl⟩
theorem l3 {α : Type} {l : List α} (h : l.length = 3) : ∃ a b c, l = [a, b, c] := by
  match l, h with
  | [a, b, c], _ => exact ⟨a, b, c, rfl⟩
theorem flF_inv {xs : List Fl} {t : Nat} {u : Value} (h : (flF xs)[t]? = some u) : ∃ i j x, t = i * 3 + j ∧ j < 3 ∧ xs[i]? = some x ∧ (fl3 x)[j]? = some u := by
  have hl := (List.getElem?_eq_some_iff.1 h).1
  rw [flF_len] at hl
  have hi : t / 3 < xs.length := by omega
  have hx : xs[t / 3]? = some (xs[t / 3]) := List.getElem?_eq_getElem hi
  have hj : t % 3 < 3 := Nat.mod_lt _ (by decide)
  have e : t = t / 3 * 3 + t % 3 := by omega
  obtain ⟨v, hv⟩ : ∃ v, (fl3 (xs[t / 3]))[t % 3]? = some v := ⟨_, List.getElem?_eq_getElem (show t % 3 < (fl3 (xs[t / 3])).length from hj)⟩
  have := flF_at hx hv
  rw [← e, h] at this
  injection this with this
  subst this
  exact ⟨t / 3, t % 3, _, e, hj, hx, hv⟩
section
variable {H : Type} {enc : TypeId × Value → H} {W : World} {base : Nat} {spare : Nat → Bool} {held : Bool}
set_option maxRecDepth 100000 in
theorem cell_trod {fuel : Nat} {cs : List Value} {x : DataW H × List MemPlace} (h : DataW.trod enc Tryz.prog W base spare held fuel 34 cs = some x) :
    ∃ (c r : Int), cs = [.int .i64 c, .int .i64 r] := by
  obtain ⟨y0, y1, n, rfl, hl, h0, h1⟩ := trod_struct2 Tryz.underlying34 h
  obtain ⟨a, b, rfl⟩ := l2 (hl.trans vcof30)
  simp only [vcof3, List.drop_zero, List.drop_succ_cons, List.take_succ_cons, List.take_zero] at h0 h1
  obtain ⟨c, e0, -, -⟩ := DataW.trod_int Tryz.underlying3 h0
  obtain ⟨r, e1, -, -⟩ := DataW.trod_int Tryz.underlying3 h1
  simp at e0 e1
  subst e0 e1
  exact ⟨c, r, rfl⟩
set_option maxRecDepth 100000 in
theorem fl_trod {fuel : Nat} {cs : List Value} {x : DataW H × List MemPlace} (h : DataW.trod enc Tryz.prog W base spare held fuel 36 cs = some x) :
    ∃ f : Fl, cs = fl3 f := by
  obtain ⟨y0, y1, n, rfl, hl, h0, h1⟩ := trod_struct2 Tryz.underlying36 h
  obtain ⟨a, b, d, rfl⟩ := l3 (hl.trans vcof33)
  simp only [vcof30, vcof9, List.drop_zero, List.drop_succ_cons, List.take_succ_cons, List.take_zero] at h0 h1
  obtain ⟨c, r, e0⟩ := cell_trod h0
  obtain ⟨s, e1, -, -⟩ := DataW.trod_string Tryz.underlying9 h1
  simp at e0 e1
  obtain ⟨rfl, rfl⟩ := e0
  subst e1
  exact ⟨⟨c, r, s⟩, rfl⟩
set_option maxRecDepth 100000 in
theorem open_fills {r0 : Reach} {b0 : Nat} {v : Value} {d : DataW H} {q : List MemPlace} (hv : Value.okWide Tryz.prog W r0 b0 22 v) (h : DataW.Trod enc Tryz.prog W 0 spare held 22 v d q) :
    ∃ (p : Option Addr) (xs : List Fl) (cap : Nat), v = .slice p xs.length cap ∧ FM W p xs ∧ (p = none → cap = 0) := by
  obtain ⟨p, len, cap, rfl⟩ := okWide_slice Tryz.underlying22 hv
  obtain ⟨fuel, hf⟩ := h
  rcases Go.Deep.open_slice Tryz.underlying22 hf with ⟨e, -⟩ | ⟨a, len', cap', m, n, D, Pl, e, -, hlc, hcm, hm, -, hel⟩
  · simp [Value.cells] at e
    obtain ⟨rfl, rfl, rfl⟩ := e
    exact ⟨none, [], 0, rfl, .inl rfl, fun _ => rfl⟩
  simp [Value.cells] at e
  obtain ⟨rfl, rfl, rfl⟩ := e
  have hle : len ≤ m := by rw [hm]; split <;> omega
  rw [vcof33] at hel
  haveI : Inhabited Fl := ⟨⟨0, 0, nul⟩⟩
  obtain ⟨F, hF⟩ := Go.Deep.choose_lt (α := Fl) (n := len) (p := fun i y => W.cells? 0 (a.add (i * 3)) 3 = some (fl3 y)) (fun i hi => by
    obtain ⟨cs', g1, g2⟩ := hel i (by omega)
    obtain ⟨f, rfl⟩ := fl_trod g2
    exact ⟨f, g1⟩)
  have hlen : ((List.range len).map F).length = len := by simp
  refine ⟨some a, (List.range len).map F, cap, by rw [hlen], ?_, fun e => by cases e⟩
  by_cases h0 : len = 0
  · left; subst h0; rfl
  right
  have hc0 : ∀ i, i < len → ∀ j, j < 3 → W.cell? (a.add (i * 3 + j)) = (fl3 (F i))[j]? := fun i hi j hj => by
    have := (World.cells?_some (hF i hi)).2.2 j hj
    rw [Go.Deep.add_add] at this
    exact this
  have hsp : W.cell? a = some (.int .i64 (F 0).c) := by
    have := hc0 0 (by omega) 0 (by omega)
    simpa [Addr.add] using this
  have hspot := World.cell?_spot hsp
  obtain ⟨g, o, sp⟩ := a
  simp only at hspot
  subst hspot
  refine ⟨g, o, rfl, ?_, fun t u hu => ?_⟩
  · unfold World.cell? at hsp
    rcases Nat.lt_or_ge g W.heap.size with h | h
    · exact h
    · rw [Array.getElem?_eq_none h] at hsp
      simp at hsp
  · obtain ⟨i, j, x, rfl, hj, hx, hu'⟩ := flF_inv hu
    have hi : i < len := by have := (List.getElem?_eq_some_iff.1 hx).1; rw [hlen] at this; exact this
    have hxF : x = F i := by
      rw [List.getElem?_map, List.getElem?_range hi] at hx
      simpa using hx.symm
    subst hxF
    have := hc0 i hi j hj
    rw [add_plain, hu'] at this
    exact this
end
end Go.Proofs.YtcekgefkimbfaaaGreatDoor.ps
/- What the listed package variables read as gives what the walks ask of them. Nothing is walked here. -/
namespace Go.Proofs.YtcekgefkimbfaaaGreatDoor
open Go.ChangeShapes Go.WideShapes Go.ChangeAt Go.RowKit Go.Joins
theorem gSynT : (Tryz.prog.globals[5]?).map (·.type) = some 27 := by kernel_rfl
theorem gRanT : (Tryz.prog.globals[6]?).map (·.type) = some 27 := by kernel_rfl
theorem gPowT : (Tryz.prog.globals[4]?).map (·.type) = some 230 := by kernel_rfl
theorem gBadT : (Tryz.prog.globals[2]?).map (·.type) = some 216 := by kernel_rfl
theorem cells112 : Tryz.prog.cellsOf 250 = 1 := by kernel_rfl
theorem cells9 : Tryz.prog.cellsOf 9 = 1 := by kernel_rfl
theorem cells105 : Tryz.prog.cellsOf 230 = 20 := by kernel_rfl
theorem cells51 : Tryz.prog.cellsOf 216 = 6 := by kernel_rfl
theorem star : "*" ++ "errors.errorString" = "*errors.errorString" := by decide
theorem row110 (u : TypeId) (h : Tryz.prog.typeName? 3 u = some "*errors.errorString") : u = 248 :=
  typeName_ptr_named (nm := "errors.errorString") (by rw [star]; kernel_rfl) (by kernel_rfl) (by decide) u (by rw [star]; exact h)
theorem bytes_eq {s t : ByteArray} (h : s.data.toList = t.data.toList) : s = t := by
  obtain ⟨⟨l⟩⟩ := s
  obtain ⟨⟨m⟩⟩ := t
  simp at h
  rw [h]
theorem six {α : Type} {l : List α} (h : l.length = 6) : ∃ a b c d e f, l = [a, b, c, d, e, f] := by
  match l, h with
  | [a, b, c, d, e, f], _ => exact ⟨a, b, c, d, e, f, rfl⟩
theorem own : ownKnob Tryz.prog.godebug = none := by kernel_rfl
theorem gOpsT : (Tryz.prog.globals[1]?).map (·.type) = some 201 := by kernel_rfl
theorem cells3 : Tryz.prog.cellsOf 3 = 1 := by kernel_rfl
theorem cells120 : Tryz.prog.cellsOf 200 = 2 := by kernel_rfl
theorem cells121 : Tryz.prog.cellsOf 201 = 24 := by kernel_rfl
theorem list2 {α : Type} {l : List α} (h : l.length = 2) : ∃ a b, l = [a, b] := by
  match l, h with
  | [a, b], _ => exact ⟨a, b, rfl⟩
theorem list12 {α : Type} {l : List α} (h : l.length = 12) : ∃ x0 x1 x2 x3 x4 x5 x6 x7 x8 x9 x10 x11, l = [x0, x1, x2, x3, x4, x5, x6, x7, x8, x9, x10, x11] := by
  match l, h with
  | [x0, x1, x2, x3, x4, x5, x6, x7, x8, x9, x10, x11], _ => exact ⟨x0, x1, x2, x3, x4, x5, x6, x7, x8, x9, x10, x11, rfl⟩
theorem list24 {α : Type} {l : List α} (h : l.length = 24) : ∃ c0 c1 c2 c3 c4 c5 c6 c7 c8 c9 c10 c11 c12 c13 c14 c15 c16 c17 c18 c19 c20 c21 c22 c23, l = [c0, c1, c2, c3, c4, c5, c6, c7, c8, c9, c10, c11, c12, c13, c14, c15, c16, c17, c18, c19, c20, c21, c22, c23] := by
  match l, h with
  | [c0, c1, c2, c3, c4, c5, c6, c7, c8, c9, c10, c11, c12, c13, c14, c15, c16, c17, c18, c19, c20, c21, c22, c23], _ => exact ⟨c0, c1, c2, c3, c4, c5, c6, c7, c8, c9, c10, c11, c12, c13, c14, c15, c16, c17, c18, c19, c20, c21, c22, c23, rfl⟩
set_option maxRecDepth 100000 in
theorem op_trod {H : Type} {enc : TypeId × Value → H} {W : World} {base : Nat} {spare : Nat → Bool} {held : Bool} {fuel : Nat} {cs : List Value} {x : DataW H × List MemPlace} (h : DataW.trod enc Tryz.prog W base spare held fuel 200 cs = some x) :
    ∃ (s : ByteArray) (n : Int), cs = [.string s, .int .i64 n] ∧ x.1 = .agg [.lit (.string s.data.toList), .lit (.int .i64 n)] := by
  obtain ⟨y0, y1, n, rfl, hl, h0, h1⟩ := trod_struct2 Tryz.underlying200 h
  obtain ⟨a, b, rfl⟩ := list2 (hl.trans cells120)
  simp only [cells3, cells9, List.drop_zero, List.drop_succ_cons, List.take_succ_cons, List.take_zero] at h0 h1
  obtain ⟨s, e0, rfl, w0⟩ := DataW.trod_string Tryz.underlying9 h0
  obtain ⟨r, e1, rfl, w1⟩ := DataW.trod_int Tryz.underlying3 h1
  simp at e0 e1
  subst e0 e1
  exact ⟨s, r, rfl, rfl⟩
set_option maxRecDepth 100000 in
set_option maxHeartbeats 2000000 in
theorem ops_of {W : World} {r : List (String × DataW Unit)} (h : laidMet Tryz.prog (("sccsettle/formula.operators", Rows.laid_sccsettle_formula_operators) :: r) W) :
    W.var? Tryz.prog "sccsettle/formula.operators" = some fm.opTab := by
  obtain ⟨ps, ⟨g, t, c, fuel, p, q, hg, ht, hv, hd, _, _⟩, _, _⟩ := h
  obtain rfl := Option.some.inj (fm.gOps.symm.trans hg)
  obtain rfl := Option.some.inj (gOpsT.symm.trans ht)
  obtain ⟨xs, m, rfl, hx, hlen, hn, hel⟩ := DataW.trod_array Tryz.underlying201 hd
  rw [cells121] at hlen
  rw [cells120] at hel
  obtain ⟨l⟩ := c
  simp only [Prod.mk.injEq, Rows.laid_sccsettle_formula_operators, DataW.agg.injEq] at hx
  obtain ⟨x0, x1, x2, x3, x4, x5, x6, x7, x8, x9, x10, x11, rfl⟩ := list12 hn
  obtain ⟨c0, c1, c2, c3, c4, c5, c6, c7, c8, c9, c10, c11, c12, c13, c14, c15, c16, c17, c18, c19, c20, c21, c22, c23, rfl⟩ := list24 (show l.length = 24 from hlen)
  obtain ⟨s0, n0, e0, f0⟩ := op_trod (show DataW.trod _ Tryz.prog W 0 _ _ m 200 _ = some x0 from hel 0 (by decide))
  obtain ⟨s1, n1, e1, f1⟩ := op_trod (show DataW.trod _ Tryz.prog W 0 _ _ m 200 _ = some x1 from hel 1 (by decide))
  obtain ⟨s2, n2, e2, f2⟩ := op_trod (show DataW.trod _ Tryz.prog W 0 _ _ m 200 _ = some x2 from hel 2 (by decide))
  obtain ⟨s3, n3, e3, f3⟩ := op_trod (show DataW.trod _ Tryz.prog W 0 _ _ m 200 _ = some x3 from hel 3 (by decide))
  obtain ⟨s4, n4, e4, f4⟩ := op_trod (show DataW.trod _ Tryz.prog W 0 _ _ m 200 _ = some x4 from hel 4 (by decide))
  obtain ⟨s5, n5, e5, f5⟩ := op_trod (show DataW.trod _ Tryz.prog W 0 _ _ m 200 _ = some x5 from hel 5 (by decide))
  obtain ⟨s6, n6, e6, f6⟩ := op_trod (show DataW.trod _ Tryz.prog W 0 _ _ m 200 _ = some x6 from hel 6 (by decide))
  obtain ⟨s7, n7, e7, f7⟩ := op_trod (show DataW.trod _ Tryz.prog W 0 _ _ m 200 _ = some x7 from hel 7 (by decide))
  obtain ⟨s8, n8, e8, f8⟩ := op_trod (show DataW.trod _ Tryz.prog W 0 _ _ m 200 _ = some x8 from hel 8 (by decide))
  obtain ⟨s9, n9, e9, f9⟩ := op_trod (show DataW.trod _ Tryz.prog W 0 _ _ m 200 _ = some x9 from hel 9 (by decide))
  obtain ⟨s10, n10, e10, f10⟩ := op_trod (show DataW.trod _ Tryz.prog W 0 _ _ m 200 _ = some x10 from hel 10 (by decide))
  obtain ⟨s11, n11, e11, f11⟩ := op_trod (show DataW.trod _ Tryz.prog W 0 _ _ m 200 _ = some x11 from hel 11 (by decide))
  simp at e0 e1 e2 e3 e4 e5 e6 e7 e8 e9 e10 e11
  obtain ⟨rfl, rfl⟩ := e0
  obtain ⟨rfl, rfl⟩ := e1
  obtain ⟨rfl, rfl⟩ := e2
  obtain ⟨rfl, rfl⟩ := e3
  obtain ⟨rfl, rfl⟩ := e4
  obtain ⟨rfl, rfl⟩ := e5
  obtain ⟨rfl, rfl⟩ := e6
  obtain ⟨rfl, rfl⟩ := e7
  obtain ⟨rfl, rfl⟩ := e8
  obtain ⟨rfl, rfl⟩ := e9
  obtain ⟨rfl, rfl⟩ := e10
  obtain ⟨rfl, rfl⟩ := e11
  simp only [List.map_cons, List.map_nil, f0, f1, f2, f3, f4, f5, f6, f7, f8, f9, f10, f11, List.cons.injEq, DataW.agg.injEq, DataW.lit.injEq, Lit.string.injEq, Lit.int.injEq, and_true, true_and] at hx
  obtain ⟨⟨⟨g0, i0⟩, ⟨g1, i1⟩, ⟨g2, i2⟩, ⟨g3, i3⟩, ⟨g4, i4⟩, ⟨g5, i5⟩, ⟨g6, i6⟩, ⟨g7, i7⟩, ⟨g8, i8⟩, ⟨g9, i9⟩, ⟨g10, i10⟩, ⟨g11, i11⟩⟩, _⟩ := hx
  subst i0
  subst i1
  subst i2
  subst i3
  subst i4
  subst i5
  subst i6
  subst i7
  subst i8
  subst i9
  subst i10
  subst i11
  rw [hv, bytes_eq (s := s0) (t := ⟨#[]⟩) g0.symm, bytes_eq (s := s1) (t := ⟨#[61]⟩) g1.symm, bytes_eq (s := s2) (t := ⟨#[60, 62]⟩) g2.symm, bytes_eq (s := s3) (t := ⟨#[60]⟩) g3.symm, bytes_eq (s := s4) (t := ⟨#[60, 61]⟩) g4.symm, bytes_eq (s := s5) (t := ⟨#[62]⟩) g5.symm, bytes_eq (s := s6) (t := ⟨#[62, 61]⟩) g6.symm, bytes_eq (s := s7) (t := ⟨#[38]⟩) g7.symm, bytes_eq (s := s8) (t := ⟨#[43]⟩) g8.symm, bytes_eq (s := s9) (t := ⟨#[45]⟩) g9.symm, bytes_eq (s := s10) (t := ⟨#[42]⟩) g10.symm, bytes_eq (s := s11) (t := ⟨#[47]⟩) g11.symm]
  rfl
set_option maxRecDepth 100000 in
theorem bads_of {W : World} {r : List (String × DataW Unit)} (h : laidMet Tryz.prog (("sccsettle/value.badTexts", Rows.laid_sccsettle_value_badTexts) :: r) W) :
    W.var? Tryz.prog "sccsettle/value.badTexts" = some #[.string bt0, .string bt1, .string bt2, .string bt3, .string bt4, .string bt5] := by
  obtain ⟨ps, ⟨g, t, c, fuel, p, q, hg, ht, hv, hd, _, _⟩, _, _⟩ := h
  obtain rfl := Option.some.inj (gBad.symm.trans hg)
  obtain rfl := Option.some.inj (gBadT.symm.trans ht)
  obtain ⟨xs, m, rfl, hx, hlen, hn, hel⟩ := DataW.trod_array Tryz.underlying216 hd
  rw [cells51] at hlen
  rw [cells9] at hel
  obtain ⟨l⟩ := c
  simp only [Prod.mk.injEq, Rows.laid_sccsettle_value_badTexts, DataW.agg.injEq] at hx
  obtain ⟨x0, x1, x2, x3, x4, x5, rfl⟩ := six hn
  obtain ⟨c0, c1, c2, c3, c4, c5, rfl⟩ := six (show l.length = 6 from hlen)
  obtain ⟨s0, e0, f0, _⟩ := DataW.trod_string Tryz.underlying9 (show DataW.trod _ Tryz.prog W 0 _ _ m 9 _ = some x0 from hel 0 (by decide))
  obtain ⟨s1, e1, f1, _⟩ := DataW.trod_string Tryz.underlying9 (show DataW.trod _ Tryz.prog W 0 _ _ m 9 _ = some x1 from hel 1 (by decide))
  obtain ⟨s2, e2, f2, _⟩ := DataW.trod_string Tryz.underlying9 (show DataW.trod _ Tryz.prog W 0 _ _ m 9 _ = some x2 from hel 2 (by decide))
  obtain ⟨s3, e3, f3, _⟩ := DataW.trod_string Tryz.underlying9 (show DataW.trod _ Tryz.prog W 0 _ _ m 9 _ = some x3 from hel 3 (by decide))
  obtain ⟨s4, e4, f4, _⟩ := DataW.trod_string Tryz.underlying9 (show DataW.trod _ Tryz.prog W 0 _ _ m 9 _ = some x4 from hel 4 (by decide))
  obtain ⟨s5, e5, f5, _⟩ := DataW.trod_string Tryz.underlying9 (show DataW.trod _ Tryz.prog W 0 _ _ m 9 _ = some x5 from hel 5 (by decide))
  simp at e0 e1 e2 e3 e4 e5
  subst e0 e1 e2 e3 e4 e5
  simp only [List.map_cons, List.map_nil, f0, f1, f2, f3, f4, f5, List.cons.injEq, DataW.lit.injEq, Lit.string.injEq, and_true] at hx
  obtain ⟨⟨g0, g1, g2, g3, g4, g5⟩, _⟩ := hx
  rw [hv, bytes_eq (s := s0) (t := bt0) g0.symm, bytes_eq (s := s1) (t := bt1) g1.symm, bytes_eq (s := s2) (t := bt2) g2.symm, bytes_eq (s := s3) (t := bt3) g3.symm, bytes_eq (s := s4) (t := bt4) g4.symm, bytes_eq (s := s5) (t := bt5) g5.symm]
theorem size_of_var {W : World} {n : String} {g : Nat} {c : Array Value} (hg : Tryz.prog.globalNamed n = some g) (h : W.var? Tryz.prog n = some c) : g < W.heap.size := by
  unfold World.var? at h
  rw [hg] at h
  simp only [Option.bind_some] at h
  by_cases hh : g < W.heap.size
  · exact hh
  · rw [Array.getElem?_eq_none (by omega)] at h
    cases h
set_option maxRecDepth 100000 in
theorem env_of_rest {W : World} (hz : 7 < W.heap.size) (h : laidMet Tryz.prog [("math/bits.deBruijn32tab", Rows.laid_math_bits_deBruijn32tab), ("math/bits.deBruijn64tab", Rows.laid_math_bits_deBruijn64tab), ("internal/strconv.uint64pow10", Rows.laid_internal_strconv_uint64pow10), ("strconv.ErrRange", Rows.laid_strconv_ErrRange), ("strconv.ErrSyntax", Rows.laid_strconv_ErrSyntax), ("sccsettle/value.badTexts", Rows.laid_sccsettle_value_badTexts), ("sccsettle/formula.operators", Rows.laid_sccsettle_formula_operators)] W) : ps.EnvP W := by
  have ht := Lib.tabIs_of_head (zs := Lib.pow10Tab) (k := .u64) gPow gPowT Tryz.underlying230 Tryz.underlying136 (by kernel_rfl) cells105 (show laidMet Tryz.prog (("internal/strconv.uint64pow10", Lib.tabData .u64 Lib.pow10Tab) :: _) W from h.tail.tail)
  obtain ⟨a, s, hr, -, -, -⟩ := laid_sentinel (show laidMet Tryz.prog (("strconv.ErrRange", .iface "*errors.errorString" (.ptr (.agg [.lit (.string _)]))) :: _) W from h.tail.tail.tail) gRan gRanT Tryz.underlying27 row110 Tryz.underlying248 Tryz.underlying250 rfl rfl Tryz.underlying9 cells112 cells9
  obtain ⟨a2, s2, hs, -, -, -⟩ := laid_sentinel (show laidMet Tryz.prog (("strconv.ErrSyntax", .iface "*errors.errorString" (.ptr (.agg [.lit (.string _)]))) :: _) W from h.tail.tail.tail.tail) gSyn gSynT Tryz.underlying27 row110 Tryz.underlying248 Tryz.underlying250 rfl rfl Tryz.underlying9 cells112 cells9
  exact ⟨hz, ht, ⟨_, _, hs⟩, ⟨_, _, hr⟩, bads_of h.tail.tail.tail.tail.tail, ops_of h.tail.tail.tail.tail.tail.tail⟩
theorem gErr : Tryz.prog.globalNamed "errors.errorType" = some 0 := by kernel_rfl
theorem rtErr : (Tryz.prog.cutTypes.find? (·.1 == "internal/reflectlite.rtype")).map (·.2) = some 142 := by kernel_rfl
theorem oneErr : ((List.range 278).filter fun t => Tryz.prog.rowNamed t [101, 114, 114, 111, 114]) = [27] := by kernel_rfl
theorem sizeErr : Tryz.prog.types.size = 278 := by kernel_rfl
theorem err_of_handle {W : World} (h : handlesMet Tryz.prog [("errors.errorType", Rows.laid_errors_errorType)] W) : ErrTy W := by
  obtain ⟨name, u, ty, e1, e2, e3, e4, e5⟩ := h _ (List.mem_singleton.2 rfl)
  have en : name = [101, 114, 114, 111, 114] := (Option.some.inj e1).symm
  subst en
  obtain rfl := Option.some.inj (rtErr.symm.trans e2)
  have hm : ty ∈ (List.range 278).filter fun t => Tryz.prog.rowNamed t [101, 114, 114, 111, 114] := List.mem_filter.2 ⟨List.mem_range.2 (by rw [← sizeErr]; exact e3), e4⟩
  rw [oneErr] at hm
  obtain rfl := List.mem_singleton.1 hm
  have hh : typeHandle Tryz.prog 27 = .pointer (some ⟨9, 27, none⟩) := by kernel_rfl
  rw [hh] at e5
  exact ⟨size_of_var gErr e5, by simpa using World.var?_cell gErr e5 0⟩
theorem swap_env {W : World} (hz : 7 < W.heap.size) (h : laidMetH Tryz.prog Rows.rowsSwapRow.laid W) : ps.EnvP W ∧ ErrTy W := by
  have h' : laidMet Tryz.prog [("math/bits.deBruijn32tab", Rows.laid_math_bits_deBruijn32tab), ("math/bits.deBruijn64tab", Rows.laid_math_bits_deBruijn64tab), ("internal/strconv.uint64pow10", Rows.laid_internal_strconv_uint64pow10), ("strconv.ErrRange", Rows.laid_strconv_ErrRange), ("strconv.ErrSyntax", Rows.laid_strconv_ErrSyntax), ("sccsettle/value.badTexts", Rows.laid_sccsettle_value_badTexts), ("sccsettle/formula.operators", Rows.laid_sccsettle_formula_operators)] W ∧ handlesMet Tryz.prog [("errors.errorType", Rows.laid_errors_errorType)] W := h
  exact ⟨env_of_rest hz h'.1, err_of_handle h'.2⟩
end Go.Proofs.YtcekgefkimbfaaaGreatDoor
/- The outside of a law that writes nothing: its arguments, whatever their types, read behind the call as they did; and the row's frame with the world's shape handed on. No program is walked here. -/
namespace Go.Proofs.YtcekgefkimbfaaaGreatDoor.out
open Go.RowKit
section
variable {H : Type} {enc : TypeId × Value → H} {P : Program}
theorem trodAll_carry {w w' : World} {base : Nat} {spare : Nat → Bool} {held : Bool} : ∀ {ts : List TypeId} {vs : List Value} {ds : List (DataW H)} {ps : List MemPlace},
    DataW.TrodAll enc P w base spare held ts vs ds ps → (∀ p ∈ ps, w.sameAt w' p) → DataW.TrodAll enc P w' base spare held ts vs ds ps
  | [], [], [], _, h, _ => h
  | _ :: _, _ :: _, _ :: _, _, ⟨p, q, ⟨n, h1⟩, h2, e⟩, hs =>
    ⟨p, q, ⟨n, DataW.trod_carry n _ _ _ h1 (fun x hx => hs x (by rw [e]; exact List.mem_append_left _ hx))⟩, trodAll_carry h2 (fun x hx => hs x (by rw [e]; exact List.mem_append_right _ hx)), e⟩
theorem sameAt_below {w w' : World} (hb : Below w.heap.size w w') (p : MemPlace) (hp : p.block < w.heap.size) : w.sameAt w' p := by
  cases p with
  | cell b off => exact hb.cell (p := ⟨b, off, none⟩) hp
  | map b => exact hb.block b hp
/-- What a law that writes nothing was handed reads behind it as it did. -/
theorem trodAll_after (hl : laidOutB P = true) (hm : mapsRowed P = true) (hz : ((List.range P.types.size).all fun t => match P.underlying t with | some (.slice e) => decide (0 < P.cellsOf e) | _ => true) = true)
    {w w' : World} {ts : List TypeId} {vs : List Value} {ds : List (DataW H)} {ps : List MemPlace} (hts : ∀ t ∈ ts, t < P.types.size)
    (h : DataW.TrodAll enc P w 0 (fun _ => true) true ts vs ds ps) (hb : Below w.heap.size w w') : DataW.TrodAll enc P w' 0 (fun b => decide (b < w.heap.size)) true ts vs ds ps :=
  trodAll_carry (DataW.TrodAll.respare (kids_rows hl hm) (slices_full_of P hz) hts h (fun p hp => decide_eq_true (h.lt p hp))) (fun p hp => sameAt_below hb p (h.lt p hp))
theorem returnsInHanded_shaped {a : Assume} {C : Checked} {os : Os} {f : FuncId} {fn : Func} {s : ChangeSpec} {conds : List PathCond} {apart fresh handsOn again : Bool} {X : World → Array Value → Prop}
    (hX : ∀ (w w' : World) (args : Array Value), w.heap = w'.heap → X w args → X w' args)
    (own : ownKnob C.prog.godebug = none) (started : os.Started) (noInit : C.prog.inits.idxOf? f = none) (hfn : C.prog.funcs[f]? = some fn)
    (witness : ∃ (w : World) (tape : Tape) (i : Input), w.os = os ∧ (w.forCall tape i).Shaped C.prog ∧ i.vars = [] ∧ Input.okWide C.prog (w.forCall tape i) .any w.heap.size f i ∧
      ((s.pre enc C.prog fn conds apart (w.forCall tape i).memory i.args ∧ X (w.forCall tape i).memory i.args) ∧ sizedMet enc C.prog fn (OpenSpec.ofChange s) apart (w.forCall tape i).memory i.args) ∧ a.holds C.prog (lone (Frame.enter C.prog f i.args .normal) [] (w.forCall tape i)))
    (contract : ∀ (W : World) (base : Nat) (args : Array Value) (ds gs : List (DataW H)) (before : List MemPlace),
      (∀ (j : Nat) t v, fn.params[j]? = some t → args[j]? = some v → Value.okWide C.prog W .any base t v) →
      DataW.Whole enc C.prog fn.params.toList s.vars apart W args.toList ds gs before →
      conds.all (PathCond.test C.prog ⟨fn.params.toList, ds, s.plain.varTypes C.prog, gs⟩) = true →
      (DataW.weightsEach C.prog (fn.params.toList ++ s.plain.varTypes C.prog) (ds ++ gs)).all (· ≤ reachBytes) = true → X W args → W.ShapedOpen C.prog →
      a.holds C.prog (lone (Frame.enter C.prog f args .normal) [] W) →
      Calls C.prog f args W fun e W' => ∃ v, e = .returned v ∧ s.post enc C.prog fn apart fresh handsOn again W args v W') :
    ReturnsInHanded a C os f .any (fun w args => (s.pre enc C.prog fn conds apart w args ∧ X w args) ∧ sizedMet enc C.prog fn (OpenSpec.ofChange s) apart w args) (s.post enc C.prog fn apart fresh handsOn again) := by
  refine returnsInHanded_of_calls own started noInit witness ?_
  intro w tape i _ hsh _ hok hpre hholds
  obtain ⟨_, _, _, fn', hfn', _, _, _, _, hval⟩ := hok
  have e : fn' = fn := Option.some.inj (hfn'.symm.trans hfn)
  subst e
  obtain ⟨⟨⟨ds, gs, before, hw, hc⟩, hx⟩, hz⟩ := hpre
  have hw' := DataW.Whole.of_heap (w' := w.forCall tape i) (by rfl) hw
  refine (contract (w.forCall tape i) w.heap.size i.args ds gs before hval hw' hc (hz.weights hw) (hX _ _ _ (by rfl) hx) hsh hholds).mono fun e W' ⟨v, he, hp⟩ => ?_
  subst he
  exact ChangeSpec.post_blind hp
end
end Go.Proofs.YtcekgefkimbfaaaGreatDoor.out
/- Proved: the law PastGroups returns true for every list of cells and every list of texts: changes done together leave what they leave one by one, and are undone by one Undo. Conditions: the listed package variables start as the program's text lays them (the card ties them). -/
namespace Go.Proofs.YtcekgefkimbfaaaGreatDoor.grp
open Go.ChangeShapes Go.WideShapes Go.ChangeAt Go.RowKit Go.Joins
open Go.ChangeMaps (open_string shut_string)
theorem door_met (os : Os) (args : Array Value) : laidMetH Tryz.prog Rows.pastGroupsRow.laid ((World.laidAll Tryz.prog os Rows.pastGroupsRow.laid).forCall (fun _ _ => 0) ⟨#[], args, []⟩).memory := by
  rw [MakeChecks.laidMetH_plain _ _ _ (by kernel_rfl)]
  exact laidMet_laidAll _ (by kernel_rfl) (by kernel_rfl)
theorem size_of {W : World} (h : W.ShapedOpen Tryz.prog) : 7 < W.heap.size := by
  obtain ⟨o, o0, h1, -, -⟩ := h.2 9 (of_decide_eq_true (by kernel_rfl)) (of_decide_eq_true (by kernel_rfl))
  have := (Array.getElem?_eq_some_iff.1 h1).1
  omega
theorem laid_out : laidOutB Tryz.prog = true := by kernel_rfl
theorem maps_rowed : mapsRowed Tryz.prog = true := by kernel_rfl
theorem slices_full : ((List.range Tryz.prog.types.size).all fun t => match Tryz.prog.underlying t with | some (.slice e) => decide (0 < Tryz.prog.cellsOf e) | _ => true) = true := by kernel_rfl
theorem params_in : ∀ t ∈ Tryz.f4.params.toList, t < Tryz.prog.types.size := by
  have h : (Tryz.f4.params.toList.all fun t => decide (t < Tryz.prog.types.size)) = true := by kernel_rfl
  exact fun t ht => of_decide_eq_true (List.all_eq_true.1 h t ht)
theorem trodAll_two {H : Type} {enc : TypeId × Value → H} {P : Program} {w : World} {base : Nat} {spare : Nat → Bool} {held : Bool} {t0 t1 : TypeId} {args : Array Value} {ds : List (DataW H)} {ps : List MemPlace} (h : DataW.TrodAll enc P w base spare held [t0, t1] args.toList ds ps) :
    ∃ v0 v1 d0 d1 p0 p1, args = #[v0, v1] ∧ ds = [d0, d1] ∧ DataW.Trod enc P w base spare held t0 v0 d0 p0 ∧ DataW.Trod enc P w base spare held t1 v1 d1 p1 := by
  obtain ⟨v0, vs, d0, ds0, p0, q0, hargs, rfl, -, h0, r0⟩ := trodAll_cons h
  obtain ⟨v1, vs1, d1, ds1, p1, q1, rfl, rfl, -, h1, r1⟩ := trodAll_cons r0
  obtain ⟨rfl, rfl, -⟩ := trodAll_nil r1
  exact ⟨v0, v1, d0, d1, p0, p1, by cases args; simp_all, rfl, h0, h1⟩
set_option maxRecDepth 100000 in
theorem lifted (os : Os) (started : os.Started) (H : Type) (enc : TypeId × Value → H) :
    ReturnsInHanded {} Tryz.checked os 4 .any (fun w args => (Rows.pastGroupsSpec.pre enc Tryz.prog Tryz.f4 [] false w args ∧ laidMetH Tryz.prog Rows.pastGroupsRow.laid w) ∧ sizedMet enc Tryz.prog Tryz.f4 (OpenSpec.ofChange Rows.pastGroupsSpec) false w args)
      (Rows.pastGroupsSpec.post enc Tryz.prog Tryz.f4 false true false false) := by
  refine out.returnsInHanded_shaped (C := Tryz.checked) (X := fun w _ => laidMetH Tryz.prog Rows.pastGroupsRow.laid w) (fun _ _ _ hh h => h.of_heap hh) own started (by kernel_rfl) Tryz.func4
    (ChangeSpec.witness_shaped (enc := enc) (C := Tryz.checked) (os := os) (X := fun w _ => laidMetH Tryz.prog Rows.pastGroupsRow.laid w) false (World.laidAll Tryz.prog os Rows.pastGroupsRow.laid) #[.slice none 0 0, .slice none 0 0] 8 (World.laidAll_os _ _ _) (World.shaped_of_ZipB (by kernel_rfl) (by kernel_rfl)) (by kernel_rfl) (by kernel_rfl) (by kernel_rfl) (door_met os _)) ?_
  intro W base args ds gs before hval0 hW _ _ hL hsh _
  have hval : ∀ (j : Nat) t v, Tryz.f4.params[j]? = some t → args[j]? = some v → Value.okWide Tryz.prog W .any base t v := hval0
  have hW' := hW
  obtain ⟨p, q, hA0, hV, rfl, hfz, hnd⟩ := hW
  have hAft : ∀ W', Below W.heap.size W W' → DataW.TrodAll enc Tryz.prog W' 0 (fun b => decide (b < W.heap.size)) true Tryz.f4.params.toList args.toList ds p := fun W' hb => out.trodAll_after laid_out maps_rowed slices_full params_in hA0 hb
  have hA : DataW.TrodAll enc Tryz.prog W 0 (fun _ => true) true Tryz.f4.params.toList args.toList ds p := hA0
  rw [Tryz.params4] at hA hval
  obtain ⟨v0, v1, d0, d1, p0, p1, rfl, rfl, h0, h1⟩ := trodAll_two hA
  obtain ⟨rfl, rfl⟩ := trodVars_none hV
  obtain ⟨p, xs, cap, rfl, hx, hc⟩ := ps.open_fills (hval 0 22 v0 rfl rfl) h0
  obtain ⟨q, ys, cap', rfl, hy, hd⟩ := ps.open_fills (hval 1 22 v1 rfl rfl) h1
  clear hA0 hval0
  simp only [List.append_nil] at hW'
  have hE : ps.EnvP W := env_of_rest (size_of hsh) (show laidMet Tryz.prog Rows.pastGroupsRow.laid W from hL)
  have key : Calls Tryz.prog 4 #[.slice p xs.length cap, .slice q ys.length cap'] W fun e w' => e = .returned (.bool true) ∧ Below W.heap.size W w' := ps.groups_any p q cap cap' xs ys W hx hy hE hc hd
  refine key.mono fun e W' ⟨he, hg⟩ => ?_
  subst he
  exact ⟨_, rfl, _, _, _, [], _, [], hW', trodAll_mk1 (shut_bool Tryz.underlying4 _), hAft W' hg, rfl, hg.frame _, fun h => by cases h⟩
theorem row_holds : Rows.PastGroupsSaid :=
  OpenClaim.holds_of_wide 4 Tryz.f4 rfl rfl rfl rfl rfl rfl rfl ⟨rfl, rfl, rfl, rfl, rfl⟩ rfl rfl rfl rfl rfl (by kernel_rfl) Tryz.func4 (by kernel_rfl)
    (of_decide_eq_true (by kernel_rfl)) (by unfold Func.isWrapper; first | (rw [if_pos (by decide +kernel)]; kernel_rfl) | (rw [if_neg (by decide +kernel)]; exact ⟨rfl, rfl⟩))
    (fun os started H enc _ => lifted os started H enc)
theorem card_holds : Rows.PastGroupsCardSaid :=
  Claim7.holds_tied_plain_at .later [] [.data, .data, .data, .sentinel, .sentinel, .data, .data] true Rows.pastGroupsCard.stood.harness true
    row_holds (fun _ h => by cases h) (by kernel_rfl) (fun _ h => by cases h) pastGroups_row_tie rfl ⟨rfl, rfl⟩ (by kernel_rfl) rfl
    (fun f fn hf hfn => by
      obtain rfl : f = 4 := Option.some.inj ((show Tryz.prog.funcNamed "sccsettle/scclaw6.PastGroups" = some 4 by kernel_rfl).symm.trans hf) |>.symm
      obtain rfl : fn = Tryz.f4 := (Option.some.inj (Tryz.func4.symm.trans hfn)).symm
      exact ⟨by kernel_rfl, fun j t ht => by
        rw [Tryz.params4] at ht
        have hm : t ∈ [22, 22] := by simpa using Array.mem_of_getElem? ht
        have hall : ([22, 22].all fun u => !Tryz.prog.wantsStandIn u) = true := by kernel_rfl
        exact (show Tryz.prog.wantsStandIn t = false by simpa using List.all_eq_true.1 hall t hm)⟩)
    (by kernel_rfl)
#print axioms card_holds
end Go.Proofs.YtcekgefkimbfaaaGreatDoor.grp
