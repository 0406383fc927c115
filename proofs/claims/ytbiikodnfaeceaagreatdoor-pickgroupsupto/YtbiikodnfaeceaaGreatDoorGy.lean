
/- The document's Group: one group. Conditions: as each theorem says. -/
import Derived.Test.YtbiikodnfaeceaaGreatDoorJm
import Derived.Test.YtbiikodnfaeceaaGreatDoorGv
import Derived.Test.YtbiikodnfaeceaaGreatDoorRh
import Derived.Test.YtbiikodnfaeceaaGreatDoorRc
import Derived.Deep.CutBlock
import Derived.Deep.RegionLaw
import Derived.Shelf.SlSortCmp.QuietGrown
namespace Go.Proofs.YtbiikodnfaeceaaGreatDoor.so
open Go.RowKit Go.Sort Go.Shelf
def headR : Code → Option Nat
  | .region n _ _ => some n
  | .seq a _ => headR a
  | _ => none
/-- All from a region on, whatever it is bracketed with. -/
def findSeq (n : Nat) : Code → Option Code
  | .seq a b => if headR a = some n then some (.seq a b) else match findSeq n a with
    | some c => some c
    | none => findSeq n b
  | .cond _ a b => match findSeq n a with
    | some c => some c
    | none => findSeq n b
  | .loop c => findSeq n c
  | .block _ c => findSeq n c
  | .scope c => findSeq n c
  | _ => none
theorem uptoV_nth (ys : List Vl) : uptoV (nthV ys) ys.length = ys := by
  unfold uptoV nthV
  apply List.ext_getElem?
  intro i
  by_cases hi : i < ys.length
  · rw [List.getElem?_map, List.getElem?_range hi, List.getElem?_eq_getElem hi]
    simp [List.getElem?_eq_getElem hi]
  · rw [List.getElem?_eq_none (by simp; omega), List.getElem?_eq_none (by omega)]
theorem ky_put {w : World} {pv : Option Addr} {j cv : Nat} {xs ys : List Vl} {x : Vl} {WA w7 : World} {bg g cap : Nat} (h : KY w (.slice pv j cv) xs 0 WA) (hbg : w.heap.size = bg) (hy : ys = xs ++ [x]) (hl : xs.length = j) (hg : WA.grownBy w7 (Value.slice pv j cv).ownBlock) (ho : w7.ownsRow bg 36 3 (.slice (some ⟨g, 0, none⟩) (j + 1) cap) (j + 1) (vals xs ++ [.int .i64 x.k, .int .i64 x.n, .string x.s])) :
    KY w (.slice (some ⟨g, 0, none⟩) (j + 1) cap) ys 0 (w7.setCell ⟨bg, 0, none⟩ (.slice (some ⟨g, 0, none⟩) (j + 1) cap)) := by
  subst hy hbg hl
  refine h.put hg ?_
  rw [vals_app, List.length_append]
  exact ho
theorem ky_at {w : World} {vk : Value} {xs : List Vl} {WA w7 : World} {bg : Nat} (h : KY w vk xs 0 WA) (hbg : w.heap.size = bg) (hg : WA.grownBy w7 vk.ownBlock) : w7.cell? ⟨bg, 0, none⟩ = some vk ∧ w7.frozen? ⟨bg, 0, none⟩ = false := by
  subst hbg
  have hne := own_ne h.blk (by decide) h.own
  have hb7 := (hg.block _ (lt_of_blk h.blk) (fun e => hne e.symm)).trans h.blk
  exact ⟨(gcells hb7).1, ofrz hb7 0⟩
theorem ry_fin {w0 : World} {b1 : Nat} {vk : Value} {xs : List Vl} {cnt : Int} {va : Value} {ys : List Vl} {wx : World} (h : RY w0 b1 vk xs cnt va ys wx) (a b : Int) (s : ByteArray) :
    (((wx.setCell ⟨w0.heap.size, 2, none⟩ (.int .i64 a)).setCell ⟨w0.heap.size, 3, none⟩ (.int .i64 b)).setCell ⟨w0.heap.size, 4, none⟩ (.string s)).heap[w0.heap.size]? = some (GBk vk cnt a b s) ∧ (((wx.setCell ⟨w0.heap.size, 2, none⟩ (.int .i64 a)).setCell ⟨w0.heap.size, 3, none⟩ (.int .i64 b)).setCell ⟨w0.heap.size, 4, none⟩ (.string s)).ownsRow w0.heap.size 36 3 vk xs.length (vals xs) ∧ Bw w0 (((wx.setCell ⟨w0.heap.size, 2, none⟩ (.int .i64 a)).setCell ⟨w0.heap.size, 3, none⟩ (.int .i64 b)).setCell ⟨w0.heap.size, 4, none⟩ (.string s)) := by
  have q1 : (wx.setCell ⟨w0.heap.size, 2, none⟩ (.int .i64 a)).heap[w0.heap.size]? = some (GBk vk cnt a 0 nul) := by rw [blk_setC h.ky.blk]; rfl
  have q2 : ((wx.setCell ⟨w0.heap.size, 2, none⟩ (.int .i64 a)).setCell ⟨w0.heap.size, 3, none⟩ (.int .i64 b)).heap[w0.heap.size]? = some (GBk vk cnt a b nul) := by rw [blk_setC q1]; rfl
  have o1 := ownsRow_setCell_other h.ky.own (a := ⟨w0.heap.size, 2, none⟩) (own_ne h.ky.blk (by decide) h.ky.own) (.int .i64 a)
  have o2 := ownsRow_setCell_other o1 (a := ⟨w0.heap.size, 3, none⟩) (own_ne q1 (by decide) o1) (.int .i64 b)
  refine ⟨by rw [blk_setC q2]; rfl, ownsRow_setCell_other o2 (a := ⟨w0.heap.size, 4, none⟩) (own_ne q2 (by decide) o2) _, ((h.ky.below.setCell (Nat.le_refl _) _).setCell (Nat.le_refl _) _).setCell (Nat.le_refl _) _⟩
noncomputable def tail18C : Code := ((Tryz.f7.body.bind (findSeq 18)).getD .skip)
set_option maxRecDepth 1000000 in
set_option maxHeartbeats 16000000 in
theorem rgrp_one (T : Tb) (p : Option Addr) (cp q : Nat) (p2 : Option Addr) (n c2 : Nat) (c : Nat → Int) (k : Nat) (pl : Option Addr) (cl i z : Nat) (Z : List Nat) (pg : Option Addr) (gl cg : Nat) (gs : List Gp) (W0 w : World) (HEQ : Hid (T.q = q)) (HT : Hid (TM w p T)) (HS : Hid (Snd T)) (HX : Hid (colOk T (k : Int))) (HCO : Hid (∀ i, i < n → colOk T (c i))) (H64 : Hid (∀ i, i < T.q → ∀ j, j < T.L i → B64 (T.v i j).n)) (HI : Hid (IM w p2 n c)) (HL : Hid (IM w pl q (nthN Z))) (hn12 : n ≤ 12) (HZ : Hid (nthN Z i = (z : Int))) (hiq : i < q) (hzq : z < q) (HFZ : Hid (likeA T n c z = false)) (HG : Hid (GS T n c k W0 (.slice pg gl cg) gs w)) (HGL : Hid (gs.length = gl)) (hgl : gl < 1000)
    (l3 l4 l5 l6 l7 l8 l10 l13 l14 l15 l16 l17 l18 l19 l20 l21 l22 l23 l24 l25 l26 l27 l28 l29 l30 l31 l32 l33 l34 l35 l36 l37 l38 l39 l40 l41 l42 l43 l44 l45 l46 l47 l48 l49 l50 l51 l52 l53 l54 l55 l56 l57 l58 l59 l60 l61 l62 l63 l64 l65 l66 l67 l68 l69 l70 l71 l72 l73 l74 l75 l76 l77 l78 l79 l80 l81 l82 l83 l84 l85 l86 l87 l88 l89 l90 l91 l92 l93 l94 l95 l96 l97 l98 l99 l100 l101 l102 l103 l104 l105 l106 l107 l108 l109 l110 l111 l112 l113 l114 l115 l116 l117 l118 l119 l120 l121 l122 l123 l124 l125 l126 l127 l128 l129 l130 l131 l132 : Value) {QN : Act → World → Prop}
    (HQ : Hid (∀ (m15 m16 m17 m18 m19 m66 m67 m68 m69 m70 m71 m72 m73 m74 m75 m76 m77 m78 m79 m80 m81 m82 m83 m84 m85 m86 m87 m88 m89 m90 m91 m92 m93 m94 m95 m96 m97 m98 m99 m100 m101 m102 m103 m104 m105 m106 m107 m108 m109 m110 m111 m112 m113 m114 m115 m116 m117 m118 m119 m120 m121 m122 m123 m124 m125 m126 m127 m128 m129 m130 m131 : Value) (gg cc : Nat) (pk : Option Addr) (ck : Nat) (w' : World), GS T n c k W0 (.slice (some ⟨gg, 0, none⟩) (gl + 1) cc) (gs ++ [⟨pk, ck, lkL T n c z q⟩]) w' → QN ⟨#[.slice p q cp, .slice p2 n c2, .int .i64 (k : Int), l3, l4, l5, l6, l7, l8, .slice pl q cl, l10, .slice (some ⟨gg, 0, none⟩) (gl + 1) cc, .int .i64 (i : Int), l13, l14, m15, m16, m17, m18, m19, l20, l21, l22, l23, l24, l25, l26, l27, l28, l29, l30, l31, l32, l33, l34, l35, l36, l37, l38, l39, l40, l41, l42, l43, l44, l45, l46, l47, l48, l49, l50, l51, l52, l53, l54, l55, l56, l57, l58, l59, l60, l61, l62, l63, l64, l65, m66, m67, m68, m69, m70, m71, m72, m73, m74, m75, m76, m77, m78, m79, m80, m81, m82, m83, m84, m85, m86, m87, m88, m89, m90, m91, m92, m93, m94, m95, m96, m97, m98, m99, m100, m101, m102, m103, m104, m105, m106, m107, m108, m109, m110, m111, m112, m113, m114, m115, m116, m117, m118, m119, m120, m121, m122, m123, m124, m125, m126, m127, m128, m129, m130, m131, l132], []⟩ w')) :
    Code.wp Tryz.prog tail18C (Exit.then QN (fun _ _ _ => False)) ⟨#[.slice p q cp, .slice p2 n c2, .int .i64 (k : Int), l3, l4, l5, l6, l7, l8, .slice pl q cl, l10, .slice pg gl cg, .int .i64 (i : Int), l13, l14, l15, l16, l17, l18, l19, l20, l21, l22, l23, l24, l25, l26, l27, l28, l29, l30, l31, l32, l33, l34, l35, l36, l37, l38, l39, l40, l41, l42, l43, l44, l45, l46, l47, l48, l49, l50, l51, l52, l53, l54, l55, l56, l57, l58, l59, l60, l61, l62, l63, l64, l65, l66, l67, l68, l69, l70, l71, l72, l73, l74, l75, l76, l77, l78, l79, l80, l81, l82, l83, l84, l85, l86, l87, l88, l89, l90, l91, l92, l93, l94, l95, l96, l97, l98, l99, l100, l101, l102, l103, l104, l105, l106, l107, l108, l109, l110, l111, l112, l113, l114, l115, l116, l117, l118, l119, l120, l121, l122, l123, l124, l125, l126, l127, l128, l129, l130, l131, l132], []⟩ w := by
  dsimp only
  conv => arg 2; whnf
  have mixed := mixed
  have hq60 : q ≤ 60 := by rw [← HEQ.out]; exact HS.out.few
  have hzT : z < T.q := by rw [HEQ.out]; exact hzq
  have HKY := KY.start w
  let BPX := bodyPost Tryz.prog Tryz.f7 (fun _ _ => True)
  have HK0 : Hid (KY w (.slice none 0 0) [] 0 (w.alloc (.cells #[.slice none 0 0, .int .i64 0, .int .i64 0, .int .i64 0, .string nul] 38))) := HKY
  clear HKY
  go_upto_block 6 with fail
  generalize w.alloc (.cells #[.slice none 0 0, .int .i64 0, .int .i64 0, .int .i64 0, .string nul] 38) = w1 at *
  go_cut [] (fun wx => ∃ vk, Hid (KY w vk (keyL (T.v z) c n) 0 wx))
  case first =>
    go_wp2_with fail
    go_loopw [16] (fun s16 wr => ∃ (j : Nat) (vk : Value), s16 = .int .i64 j ∧ j ≤ n ∧ Hid (KY w vk (keyL (T.v z) c j) 0 wr)) (fun s16 _ => n - (intOf s16).toNat)
    case atStart => exact ⟨0, _, rfl, Nat.zero_le _, HK0⟩
    case round =>
      obtain ⟨j, vk, rfl, hj, HK⟩ := hrel
      by_cases hlt : j < n
      · have hlt' : (j : Int) < (n : Int) := by omega
        have hj0 : (0 : Int) ≤ (j : Int) := by omega
        have hi0 : (0 : Int) ≤ (i : Int) := by omega
        have hi1 : (i : Int) < (q : Int) := by omega
        have hz0' : (0 : Int) ≤ (z : Int) := by omega
        have hz1' : (z : Int) < (q : Int) := by omega
        obtain ⟨hx0, hx1, hx2⟩ := HS.out.col (HCO.out j hlt) hzT
        obtain ⟨t, ht⟩ : ∃ t : Nat, c j = (t : Int) := ⟨(c j).toNat, by omega⟩
        rcases HL.out.next HK.out.below with h | ⟨gl', ol, rfl, hgl', hL3⟩
        · omega
        have y0 := hL3 i hiq
        rw [HZ.out] at y0
        rcases HI.out.next HK.out.below with h | ⟨gb, ob, rfl, hgb, hI3⟩
        · omega
        have y1 := hI3 j hlt
        rw [ht] at y1 hx0 hx1
        rcases HT.out.next HK.out.below with h | ⟨gt, ot, rfl, hgt, hT3⟩
        · omega
        obtain ⟨y2, hVM⟩ := hT3 z hzT
        rcases hVM with h | ⟨g1, o1, e1, hg1, hV3⟩
        · omega
        rw [e1] at y2
        obtain ⟨y3, y4, y5⟩ := hV3 t (by omega)
        have HKS : Hid (keyL (T.v z) c (j + 1) = keyL (T.v z) c j ++ [T.v z t]) := by show _ = _; rw [keyL_succ, ht]; rfl
        have hlen := keyL_len (T.v z) c j
        obtain ⟨pv, cv, rfl, -⟩ := own_vm HK.out.own
        generalize T.v z t = x at *
        obtain ⟨xk, xn, xs⟩ := x
        dsimp only at y3 y4 y5
        clear hL3 hI3 hT3 hV3 ht e1
        generalize T.L z = lz at *
        generalize T.C z = cz at *
        rw [hlen] at HK
        obtain ⟨bg, hbg⟩ : ∃ bg, w.heap.size = bg := ⟨_, rfl⟩
        rw [hbg]
        obtain ⟨c0, -, -, -, -⟩ := gcells HK.out.blk
        rw [hbg] at c0
        have hq1 : (wr.alloc (.cells #[.int .i64 xk, .int .i64 xn, .string xs] 36)).cell? ⟨bg, 0, none⟩ = some (.slice pv j cv) := ((Bw.al wr (.cells #[.int .i64 xk, .int .i64 xn, .string xs] 36)).cell (p := ⟨bg, 0, none⟩) (by rw [← hbg]; exact lt_of_blk HK.out.blk)).trans c0
        obtain ⟨WA, hWA⟩ : ∃ WA, (wr.alloc (.cells #[.int .i64 xk, .int .i64 xn, .string xs] 36)).drew = WA := ⟨_, rfl⟩
        have HWA : Hid ((wr.alloc (.cells #[.int .i64 xk, .int .i64 xn, .string xs] 36)).drew = WA) := hWA
        have hdr : Bw wr (wr.alloc (.cells #[.int .i64 xk, .int .i64 xn, .string xs] 36)).drew := ((Below.refl _ _).alloc (Nat.le_refl _) _).drew
        rw [hWA] at hdr
        have HKA : Hid (KY w (.slice pv j cv) (keyL (T.v z) c j) 0 WA) := HK.out.next hdr
        have HOA : Hid (WA.ownsRow bg 36 3 (.slice pv j cv) j (vals (keyL (T.v z) c j)) ∧ bg ≤ WA.heap.size) := by
          have := HKA.out.own
          rw [hlen, hbg] at this
          exact ⟨this, by rw [← hbg]; exact HKA.out.below.size⟩
        have H1 : Hid (∀ u ∈ [Value.int .i64 xk, .int .i64 xn, .string xs], u.oneCell' = true) := by intro u hu; simp at hu; rcases hu with rfl | rfl | rfl <;> rfl
        have HBG : Hid (w.heap.size = bg) := hbg
        have HLN : Hid ((keyL (T.v z) c j).length = j) := hlen
        obtain ⟨i0, hi, hzz0, hzz1, hzz2⟩ := info_parts infoV
        clear hWA hdr hbg hlen HK
        go_upto_block 7 with fail
        go_cut [] (fun wx => ∃ vk', Hid (KY w vk' (keyL (T.v z) c (j + 1)) 0 wx))
        case first =>
          go_wp2_with fail
          go_region_law ((refine step_append_lies _ (by rfl) _ _ 34 (by rfl) bg 36 i0 (.agg #[.int .i64 0, .int .i64 0, .string nul]) 3 32 Tryz.underlying34 hi hzz0 hzz1 hzz2 rfl (by decide) (.slice pv j cv) j (vals (keyL (T.v z) c j)) (by rfl) (by rw [HWA.out]; exact HOA.out.1) ⟨wr.heap.size, 0, none⟩ 1 1 [.int .i64 xk, .int .i64 xn, .string xs] (by rfl) rfl (World.news_of_block (heap_alloc_new wr _)) H1.out (by decide) (by unfold maxLen; omega) (by omega) (by rw [HWA.out]; exact HOA.out.2) _ rfl ?_; intro g cap w7 hown7 hgrow hat hlt7; rw [HWA.out] at hgrow; have HE : Hid (KY w (.slice (some ⟨g, 0, none⟩) (j + 1) cap) (keyL (T.v z) c (j + 1)) 0 (w7.setCell ⟨bg, 0, none⟩ (.slice (some ⟨g, 0, none⟩) (j + 1) cap))) := ky_put HKA.out HBG.out HKS.out HLN.out hgrow hown7; obtain ⟨e0, e1⟩ := ky_at HKA.out HBG.out hgrow; clear hown7 hgrow hat hlt7))
          all_goals
            go_wp2_with fail
            go_meet
            case rel => exact ⟨_, HE⟩
        case rest =>
          obtain ⟨vk', HK2⟩ := hcut
          apply_assumption
          go_wp2_with fail
          exact ⟨⟨j + 1, vk', by simp, hlt, HK2⟩, by simp [intOf]; omega⟩
      · have hlt' : ¬ (j : Int) < (n : Int) := by omega
        have hjn : j = n := by omega
        subst hjn
        go_wp2_with fail
        go_meet
        case rel => exact ⟨vk, HK⟩
  case rest =>
  obtain ⟨vk, HK⟩ := hcut
  clear HK0
  apply_assumption
  have HA : Hid (∀ j wx, j < T.q → Bw w wx → Calls Tryz.prog 17 #[.slice (T.P j) (T.L j) (T.C j), .slice (T.P z) (T.L z) (T.C z), .slice p2 n c2] wx fun e w' => e = .returned (.bool (alT T n c j z)) ∧ Gr wx w') := by
    intro j wx hj hb
    rcases HT.out.next hb with h | ⟨g, o, -, -, h3⟩
    · omega
    refine ralike_any _ _ _ _ _ _ _ _ _ _ _ _ wx (h3 j hj).2 (h3 z hzT).2 (HI.out.next hb) hn12 (fun u hu => ?_) (HS.out.ok j hj) (HS.out.ok z hzT)
    have c1 := HS.out.col (HCO.out u hu) hj
    have c2 := HS.out.col (HCO.out u hu) hzT
    exact ⟨c1.1, c1.2.1, c2.2.1⟩
  go_upto_block 8 with fail
  have HR0 : Hid (RY w wc.heap.size vk (keyL (T.v z) c n) 0 (.slice none 0 0) [] wc) := RY.start HK.out
  obtain ⟨b1, hb1⟩ : ∃ b1, wc.heap.size = b1 := ⟨_, rfl⟩
  rw [hb1] at HR0
  clear hb1
  go_cut [17] (fun s17 wx => Hid (RY w b1 vk (keyL (T.v z) c n) ((lkL T n c z q).length : Nat) s17 ((lkL T n c z q).map fun j => T.v j k) wx))
  case first =>
    go_wp2_with fail
    go_loopw [17, 18] (fun s17 s18 wr => ∃ j : Nat, s18 = .int .i64 j ∧ j ≤ q ∧ Hid (RY w b1 vk (keyL (T.v z) c n) ((lkL T n c z j).length : Nat) s17 ((lkL T n c z j).map fun j => T.v j k) wr)) (fun _ s18 _ => q - (intOf s18).toNat)
    case atStart => exact ⟨0, rfl, Nat.zero_le _, HR0⟩
    case round =>
      obtain ⟨j, rfl, hj, HR⟩ := hrel
      clear HR0
      by_cases hlt : j < q
      · have hlt' : (j : Int) < (q : Int) := by omega
        have hj0 : (0 : Int) ≤ (j : Int) := by omega
        have hjT : j < T.q := by rw [HEQ.out]; exact hlt
        have hi0 : (0 : Int) ≤ (i : Int) := by omega
        have hi1 : (i : Int) < (q : Int) := by omega
        have hz0' : (0 : Int) ≤ (z : Int) := by omega
        have hz1' : (z : Int) < (q : Int) := by omega
        have HBW : Hid (Bw w wr) := HR.out.ky.below
        rcases HL.out.next HBW.out with h | ⟨gl', ol, rfl, hgl', hL3⟩
        · omega
        have y0 := hL3 i hiq
        rw [HZ.out] at y0
        rcases HT.out.next HBW.out with h | ⟨gt, ot, rfl, hgt, hT3⟩
        · omega
        have c1 := fun m os => tm_at hgt hT3 hjT m os
        have c2' := fun m os => tm_at hgt hT3 hzT m os
        have c3 := fun m os => cell_at2 hgl' y0 m os
        have hc := fun m os => HA.out j (grow (wr.drewN m) os) hjT (HBW.out.tr (Gr.below ⟨m, os, rfl⟩))
        have HVJ : Hid (∀ wx, Bw w wx → wx.cell? ⟨gt, ot + j, none⟩ = some (.slice (T.P j) (T.L j) (T.C j)) ∧ VM wx (T.P j) (T.L j) (T.v j)) := fun wx hb => by
          rcases HT.out.next hb with h | ⟨g9, o9, e9, -, h9⟩
          · omega
          · injection e9 with e9
            injection e9 with ea eb
            subst ea eb
            exact h9 j hjT
        have y1 := (hT3 j hjT).1
        obtain ⟨A, hA⟩ : ∃ A, alT T n c j z = A := ⟨_, rfl⟩
        have HAA : Hid (alT T n c j z = A) := hA
        rw [hA] at hc
        have HKC : Hid (k < T.L j) := by
          have := (HS.out.col HX.out hjT).2.2.1
          show k < T.L j
          simpa using this
        clear hA hL3 hT3 hgt
        generalize T.P z = pz at *
        generalize T.L z = lz at *
        generalize T.C z = cz at *
        generalize T.P j = pj at *
        generalize T.L j = lj at *
        generalize T.C j = cj at *
        go_upto_region 28 with fail
        go_cut [19] (fun s19 wx => s19 = .bool A ∧ Hid (Bw wr wx))
        case first =>
          go_quiet_grown (first | (go_at_call 17; refine Calls.grown_of (hc _ _)))
          have HB2 : Hid (Bw wr (grow (wr.drewN nq) osq)) := Gr.below ⟨nq, osq, rfl⟩
          clear c1 c2' c3 hc
          generalize grow (wr.drewN nq) osq = w2 at *
          go_wp2_with fail
          go_meet
          case rel => exact ⟨rfl, HB2⟩
        case rest =>
        obtain ⟨rfl, HB2⟩ := hcut
        apply_assumption
        clear c1 c2' c3 hc y0 y1
        have hll := lkL_len T n c z j
        have hsc := lkL_succ T n c z j
        rw [HAA.out] at hsc
        have HR2 : Hid (RY w b1 vk (keyL (T.v z) c n) ((lkL T n c z j).length : Nat) u17 ((lkL T n c z j).map fun j => T.v j k) wc) := HR.out.next HB2.out
        clear HR HB2
        cases A with
        | false =>
          have HE : Hid (lkL T n c z (j + 1) = lkL T n c z j) := by show _ = _; rw [hsc]; simp
          clear hsc
          go_wp2_with fail
          exact ⟨⟨j + 1, by simp, hlt, by rw [HE.out]; exact HR2⟩, by simp [intOf]; omega⟩
        | true =>
          have HE : Hid (lkL T n c z (j + 1) = lkL T n c z j ++ [j]) := by show _ = _; rw [hsc]; simp
          clear hsc
          generalize lkL T n c z j = LK at *
          obtain ⟨ln, hln⟩ : ∃ ln, LK.length = ln := ⟨_, rfl⟩
          have HLN : Hid (LK.length = ln) := hln
          rw [hln] at HR2 hll
          clear hln
          have HR3 : Hid (RY w b1 vk (keyL (T.v z) c n) ((ln : Int) + 1) u17 (LK.map fun j => T.v j k) (wc.setCell ⟨w.heap.size, 1, none⟩ (.int .i64 ((ln : Int) + 1)))) := HR2.out.inc _
          obtain ⟨-, g1, -, -, -⟩ := gcells HR2.out.ky.blk
          have f1 := ofrz HR2.out.ky.blk 1
          have hln0 : (0 : Int) ≤ (ln : Int) := by omega
          have hln1 : (ln : Int) ≤ 60 := by omega
          go_upto_region 30 with fail
          clear g1 f1
          generalize wc.setCell ⟨w.heap.size, 1, none⟩ (.int .i64 ((ln : Int) + 1)) = w3 at *
          obtain ⟨z1, hvm⟩ := HVJ.out w3 HR3.out.ky.below
          rcases hvm with h | ⟨g5, o5, rfl, hg5, hv5⟩
          · have := HKC.out; omega
          obtain ⟨x0, x1, x2⟩ := hv5 k HKC.out
          have hk0 : (0 : Int) ≤ (k : Int) := by omega
          have hk1 : (k : Int) < (lj : Int) := by have := HKC.out; omega
          have hyl : (LK.map fun j => T.v j k).length = ln := by rw [List.length_map, HLN.out]
          obtain ⟨pv, cv, e17, -⟩ := own_vm HR3.out.own
          rw [hyl] at e17
          subst e17
          obtain ⟨g2, cc2, w4, hr, hR4⟩ := HR3.out.push (by rw [hyl]; omega) (T.v j k)
          rw [hyl] at hr hR4
          have HR4 : Hid (RY w b1 vk (keyL (T.v z) c n) ((lkL T n c z (j + 1)).length : Nat) (.slice (some ⟨g2, 0, none⟩) (ln + 1) cc2) ((lkL T n c z (j + 1)).map fun j => T.v j k) w4) := by
            show RY _ _ _ _ _ _ _ _
            rw [HE.out, List.map_append, List.length_append, HLN.out]
            exact hR4
          generalize T.v j k = x at *
          obtain ⟨xk, xn, xs⟩ := x
          dsimp only at x0 x1 x2 hr
          have HRR : Hid ((Builtin.append_ #[34, 34] 34 #[.slice pv ln cv, .slice (some ⟨w3.heap.size, 0, none⟩) 1 1]).run Tryz.prog (w3.alloc (.cells #[.int .i64 xk, .int .i64 xn, .string xs] 36)) = .ok (.slice (some ⟨g2, 0, none⟩) (ln + 1) cc2) w4) := hr
          clear hr hR4 hyl hv5 hg5 HR2 HR3
          go_wp2_with (first | (at_builtin; refine wpList_append_eq rfl _ _ 34 rfl _ _ _ _ rfl rfl HRR.out ?_))
          exact ⟨⟨j + 1, by simp, hlt, HR4⟩, by simp [intOf]; omega⟩
      · have hlt' : ¬ (j : Int) < (q : Int) := by omega
        have hjq : j = q := by omega
        subst hjq
        go_wp2_with fail
        go_meet
        case rel => exact HR
  case rest =>
  have HR : Hid (RY w b1 vk (keyL (T.v z) c n) ((lkL T n c z q).length : Nat) u17 ((lkL T n c z q).map fun j => T.v j k) wc) := hcut
  clear hcut HR0 HA HK
  apply_assumption
  have hll := lkL_len T n c z q
  have hyl : ((lkL T n c z q).map fun j => T.v j k).length = (lkL T n c z q).length := List.length_map _
  obtain ⟨pv, cv, e17, hvm, -⟩ := own_vm HR.out.own
  have HSU := rsum3_any pv _ cv (by rw [hyl]; omega) _ wc hvm (fun u hu => by
    have hm : nthV ((lkL T n c z q).map fun j => T.v j k) u ∈ (lkL T n c z q).map fun j => T.v j k := by
      unfold nthV
      rw [List.getD_eq_getElem?_getD, List.getElem?_eq_getElem hu]
      exact List.getElem_mem hu
    obtain ⟨j, hj, e⟩ := List.mem_map.1 hm
    rw [← e]
    have hjq : j < T.q := by rw [HEQ.out]; exact List.mem_range.1 (List.mem_filter.1 hj).1
    exact H64.out j hjq k (by have := (HS.out.col HX.out hjq).2.2.1; simpa using this))
  rw [uptoV_nth, hyl] at HSU
  rw [hyl] at e17
  subst e17
  have HGM : Hid (gsum T k (lkL T n c z q) = sumV ((lkL T n c z q).map fun j => T.v j k) []) := rfl
  rw [← HGM.out] at HSU
  have HKL := keyL_len (T.v z) c n
  obtain ⟨pk, ck, ek, hkm, hkg⟩ := own_vm HR.out.ky.own
  rw [HKL] at ek hkm hkg
  subst ek
  have HPK : Hid (∀ wx, wx.ownsRow w.heap.size 36 3 (.slice pk n ck) (keyL (T.v z) c n).length (vals (keyL (T.v z) c n)) → VM wx pk n (gkey T c ⟨pk, ck, lkL T n c z q⟩) ∧ (n = 0 ∨ ∃ b, pk = some ⟨b, 0, none⟩ ∧ w.heap.size ≤ b ∧ b < wx.heap.size)) := fun wx ho => by
    obtain ⟨p', c', e', h1, h2⟩ := own_vm ho
    rw [HKL] at e' h1 h2
    injection e' with ea _ eb
    subst ea eb
    refine ⟨?_, ?_⟩
    · rcases h1 with h1 | ⟨g9, o9, e9, hg9, h9⟩
      · exact .inl h1
      · refine .inr ⟨g9, o9, e9, hg9, fun u hu => ?_⟩
        have := h9 u hu
        rw [keyL_at _ _ hu] at this
        unfold gkey
        rw [show (Gp.mk pk ck (lkL T n c z q)).pt.headD 0 = z from lkL_head hzq HFZ.out]
        exact this
    · rcases Nat.eq_zero_or_pos n with h0 | h0
      · exact .inl h0
      · obtain ⟨g9, e9, hb9, hl9⟩ := h2 h0
        exact .inr ⟨g9, e9, hb9, hl9⟩
  clear hvm hkm hkg HKL
  obtain ⟨R, hRR⟩ : ∃ R, gsum T k (lkL T n c z q) = R := ⟨_, rfl⟩
  have HRG : Hid (gsum T k (lkL T n c z q) = R) := hRR
  rw [hRR] at HSU
  clear HGM hRR
  obtain ⟨rk, rn, rs⟩ := R
  dsimp only at HSU
  obtain ⟨ln, hln⟩ : ∃ ln, (lkL T n c z q).length = ln := ⟨_, rfl⟩
  have HLN : Hid ((lkL T n c z q).length = ln) := hln
  rw [hln] at HR HSU hll ⊢
  have HSC : Hid (Calls Tryz.prog 13 #[.slice pv ln cv] wc fun e w' => e = .returned (V rk rn rs) ∧ Bw wc w') := HSU
  clear HSU hln hyl
  go_upto_region 32 with fail
  refine HSC.out.mono ?_
  rintro e w5 ⟨rfl, hb5⟩
  have HR5 : Hid (RY w b1 (.slice pk n ck) (keyL (T.v z) c n) (ln : Nat) (.slice pv ln cv) ((lkL T n c z q).map fun j => T.v j k) w5) := HR.out.next hb5
  clear hb5 HR HSC
  have HF := ry_fin HR5.out rk rn rs
  have HF2 : Hid (_ ∧ _ ∧ _) := HF
  clear HF
  obtain ⟨g0, g1, g2, g3, g4⟩ := gcells HR5.out.ky.blk
  have f2 := ofrz HR5.out.ky.blk 2
  have f3 := ofrz HR5.out.ky.blk 3
  have f4 := ofrz HR5.out.ky.blk 4
  go_upto_region 32 with fail
  clear g0 g1 g2 g3 g4 f2 f3 f4
  generalize ((w5.setCell ⟨w.heap.size, 2, none⟩ (.int .i64 rk)).setCell ⟨w.heap.size, 3, none⟩ (.int .i64 rn)).setCell ⟨w.heap.size, 4, none⟩ (.string rs) = w6 at *
  obtain ⟨g0, g1, g2, g3, g4⟩ := gcells HF2.out.1
  obtain ⟨hkv, hka⟩ := HPK.out w6 HF2.out.2.1
  have hG6 := HG.out.next HF2.out.2.2
  obtain ⟨gg, cc, w7, hr, hG7⟩ := hG6.one (by rw [HGL.out]; omega) ⟨pk, ck, lkL T n c z q⟩ hkv (by
    rcases hka with h0 | ⟨b, e, h1, h2⟩
    · exact .inl h0
    · refine .inr ⟨b, e, h2, fun eo => ?_⟩
      have := (HG.out.own.lt b eo).2
      omega)
  rw [HGL.out] at hr hG7
  dsimp only at hr
  rw [HRG.out, HLN.out] at hr
  dsimp only at hr
  have HRR : Hid ((Builtin.append_ #[26, 26] 26 #[.slice pg gl cg, .slice (some ⟨w6.heap.size, 0, none⟩) 1 1]).run Tryz.prog (w6.alloc (.cells #[.slice pk n ck, .int .i64 (ln : Nat), .int .i64 rk, .int .i64 rn, .string rs] 38)) = .ok (.slice (some ⟨gg, 0, none⟩) (gl + 1) cc) w7) := hr
  have HG7 : Hid (GS T n c k W0 (.slice (some ⟨gg, 0, none⟩) (gl + 1) cc) (gs ++ [⟨pk, ck, lkL T n c z q⟩]) w7) := hG7
  clear hr hG7 hG6 hkv hka HF2 HR5 HPK
  go_wp2_with (first | (at_builtin; refine wpList_append_eq rfl _ _ 26 rfl _ _ _ _ rfl rfl HRR.out ?_))
  exact HQ.out _ _ _ _ _ _ _ _ _ _ _ _ _ _ _ _ _ _ _ _ _ _ _ _ _ _ _ _ _ _ _ _ _ _ _ _ _ _ _ _ _ _ _ _ _ _ _ _ _ _ _ _ _ _ _ _ _ _ _ _ _ _ _ _ _ _ _ _ _ _ _ gg cc pk ck _ HG7.out
end Go.Proofs.YtbiikodnfaeceaaGreatDoor.so
