
/- The law SortOnce, from its first loop on. Conditions: as each theorem says. -/
import Derived.Test.YtehamdkjdbaceaaSi
import Derived.BigQuiet
namespace Go.Proofs.Ytehamdkjdbaceaa.so
open Go.RowKit Go.Sort Go.Shelf
theorem BA.drewN {w : World} {g q : Nat} {f : Nat → Bool} (h : BA w g q f) (m : Nat) : BA (w.drewN m) g q f := h
theorem Bw.drewN (w : World) (m : Nat) : Bw w (w.drewN m) := Gr.below ⟨m, #[], by rw [grow_empty]⟩
noncomputable def tail8C : Code := ((Try.f4.body.bind (findSeq 8)).getD .skip)
set_option maxRecDepth 1000000 in
set_option maxHeartbeats 16000000 in
theorem tail8 (T : Tb) (p : Option Addr) (c : Nat) (p2 : Option Addr) (n c2 : Nat) (d : Nat → Int) (q gi ln cv : Nat) (pv : Option Addr) (w0 wb w : World) (HEQ : Hid (T.q = q)) (HT : Hid (TM wb p T)) (HI : Hid (IM wb p2 n d)) (HS : Hid (Snd T)) (hn12 : n ≤ 12) (HCO : Hid (∀ i, i < n → colOk T (d i))) (HLN : Hid ((dst T n d q).length = ln)) (HIV : Hid (IM wb pv ln (nth (dst T n d q)))) (hgi : wb.heap.size ≤ gi) (HA : Hid (BA w gi q (fun _ => false))) (HB : Hid (Bw wb w)) (HB0 : Hid (Bw w0 wb))
    (l2 l3 l4 l5 l6 l8 l10 l11 l12 l13 l14 l15 l16 l17 l18 l19 l20 l21 l22 l23 l24 l25 l26 l27 l28 l29 l30 l31 l32 l33 l34 l35 l36 l37 l38 l39 l40 l41 l42 l43 l44 l45 l46 l47 l48 l49 l50 l51 l52 l53 l54 l55 l56 l57 l58 l59 l60 l61 l62 l63 l64 l65 l66 l67 l68 l69 l70 l71 l72 l73 l74 l75 l76 l77 l78 l79 l80 l81 l82 l83 l84 l85 l86 l87 l88 l89 l90 l91 l92 l93 l94 l95 l96 l97 l98 l99 l100 l101 l102 l103 l104 l105 l106 l107 l108 l109 l110 l111 l112 l113 l114 l115 l116 l117 l118 l119 l120 l121 l122 l123 l124 l125 l126 l127 l128 l129 l130 l131 l132 l133 l134 l135 l136 l137 l138 l139 l140 l141 l142 l143 : Value) :
    Code.wp Try.prog tail8C (bodyPost Try.prog Try.f4 fun e w' => e = .returned (.bool true) ∧ Bw w0 w') ⟨#[.slice p q c, .slice p2 n c2, l2, l3, l4, l5, l6, .slice pv ln cv, l8, .slice (some ⟨gi, 0, none⟩) q q, l10, l11, l12, l13, l14, l15, l16, l17, l18, l19, l20, l21, l22, l23, l24, l25, l26, l27, l28, l29, l30, l31, l32, l33, l34, l35, l36, l37, l38, l39, l40, l41, l42, l43, l44, l45, l46, l47, l48, l49, l50, l51, l52, l53, l54, l55, l56, l57, l58, l59, l60, l61, l62, l63, l64, l65, l66, l67, l68, l69, l70, l71, l72, l73, l74, l75, l76, l77, l78, l79, l80, l81, l82, l83, l84, l85, l86, l87, l88, l89, l90, l91, l92, l93, l94, l95, l96, l97, l98, l99, l100, l101, l102, l103, l104, l105, l106, l107, l108, l109, l110, l111, l112, l113, l114, l115, l116, l117, l118, l119, l120, l121, l122, l123, l124, l125, l126, l127, l128, l129, l130, l131, l132, l133, l134, l135, l136, l137, l138, l139, l140, l141, l142, l143], []⟩ w := by
  dsimp only
  conv => arg 2; whnf
  have mixed := mixed
  have hq60 : q ≤ 60 := by rw [← HEQ.out]; exact HS.out.few
  have hlq : ln ≤ q := by rw [← HLN.out]; exact dst_len _ _ _ _
  let BPX := bodyPost Try.prog Try.f4 (fun _ _ => True)
  go_upto_block 0 with fail
  go_cut [] (fun wx => Hid (BA wx gi q (fun k => !likeA T n d k)) ∧ Hid (Bw wb wx))
  case first =>
    go_wp2_with fail
    go_loopw [10] (fun s10 wr => ∃ i : Nat, s10 = .int .i64 i ∧ i ≤ ln ∧ Hid (Bw wb wr) ∧ Hid (BA wr gi q (fun k => decide ((k : Int) ∈ (dst T n d q).take i)))) (fun s10 _ => ln - (intOf s10).toNat)
    case atStart => exact ⟨0, rfl, Nat.zero_le _, HB, by show BA _ _ _ _; simpa using HA.out⟩
    case round =>
      clear HA HB
      obtain ⟨i, rfl, hi, HB, HA⟩ := hrel
      by_cases hlt : i < ln
      · have hlt' : (i : Int) < (ln : Int) := by omega
        have hi0 : (0 : Int) ≤ (i : Int) := by omega
        rcases HIV.out.next HB.out with h | ⟨g, o, rfl, hg, h3⟩
        · omega
        have hil : i < (dst T n d q).length := by rw [HLN.out]; exact hlt
        obtain ⟨t, et, htq, -⟩ := dst_mem.1 (nth_mem hil)
        have c1 := h3 i hlt
        rw [et] at c1
        have HET : Hid (nth (dst T n d q) i = (t : Int)) := et
        have k1a : ¬ (t : Int) < 0 := by omega
        have k1 : decide ((t : Int) < 0) = false := decide_eq_false (by omega)
        have k2n : ¬ q ≤ t := by omega
        have k2m : decide (q ≤ t) = false := decide_eq_false (by omega)
        have ht0 : (0 : Int) ≤ (t : Int) := by omega
        have htq' : (t : Int) < (q : Int) := by omega
        clear et
        have HNX : Hid (∀ wx, BA wx gi q (fun k => decide ((k : Int) ∈ (dst T n d q).take i)) → BA (wx.setCell ⟨gi, t, none⟩ (.bool true)) gi q (fun k => decide ((k : Int) ∈ (dst T n d q).take (i + 1)))) := fun wx h => by
          have h2 := h.set t true
          have e : (fun k => if k = t then true else decide ((k : Int) ∈ (dst T n d q).take i)) = (fun k : Nat => decide ((k : Int) ∈ (dst T n d q).take (i + 1))) := by
            funext k
            rw [List.take_succ_eq_append_getElem hil]
            have e1 : (dst T n d q)[i] = (t : Int) := by
              have := HET.out
              unfold nth at this
              rw [List.getD_eq_getElem?_getD, List.getElem?_eq_getElem hil] at this
              simpa using this
            rw [e1]
            by_cases e : k = t
            · subst e; simp
            · rw [if_neg e]
              have : (k : Int) ≠ (t : Int) := by omega
              simp [this]
          rw [e] at h2
          exact h2
        have c1q : ∀ m, (wr.drewN m).cell? ⟨g, o + i, none⟩ = some (.int .i64 (t : Int)) := fun m => c1
        have c3 := HA.out.at htq
        have c4 := HA.out.fz t
        have c3q : ∀ m, (wr.drewN m).cell? ⟨gi, t, none⟩ = some (.bool (decide ((t : Int) ∈ (dst T n d q).take i))) := fun m => c3
        have c4q : ∀ m, (wr.drewN m).frozen? ⟨gi, t, none⟩ = false := fun m => c4
        have HA2 : Hid (∀ m, BA ((wr.drewN m).setCell ⟨gi, t, none⟩ (.bool true)) gi q (fun k => decide ((k : Int) ∈ (dst T n d q).take (i + 1)))) := fun m => HNX.out _ (HA.out.drewN m)
        have HB2 : Hid (∀ m, Bw wb ((wr.drewN m).setCell ⟨gi, t, none⟩ (.bool true))) := fun m => (HB.out.tr (Bw.drewN _ _)).setCell hgi _
        generalize decide ((t : Int) ∈ (dst T n d q).take i) = B at *
        clear c3 c4 c1 HA HB HNX
        by_cases hi1 : 0 < i
        · obtain ⟨i', hii⟩ : ∃ i', i = i' + 1 := ⟨i - 1, by omega⟩
          have c2' := h3 i' (by omega)
          have hlt3 := nth_lt (dst_pw T n d q) hil (show i' < i by omega)
          rw [HET.out] at hlt3
          obtain ⟨y, hy⟩ : ∃ y, nth (dst T n d q) i' = y := ⟨_, rfl⟩
          rw [hy] at hlt3 c2'
          clear hy h3
          have c2q : ∀ m, (wr.drewN m).cell? ⟨g, o + i', none⟩ = some (.int .i64 y) := fun m => c2'
          have k3m : decide (0 < i) = true := decide_eq_true (by omega)
          have k4 : decide ((t : Int) ≤ y) = false := decide_eq_false (by omega)
          have k4' : ¬ (t : Int) ≤ y := by omega
          have k5 : IntKind.i64.wrap ((i : Int) - 1) = (i : Int) - 1 := by rw [IntKind.wrap_i64]; omega
          have k6 : ((i : Int) - 1).toNat = i' := by omega
          have k7 : (0 : Int) ≤ (i : Int) - 1 := by omega
          have k8 : (i : Int) - 1 < (ln : Int) := by omega
          clear hii hil c2'
          go_wp2_with fail
          go_quiet (fail)
          go_wp2_with fail
          exact ⟨⟨i + 1, by simp, hlt, HB2.out _, HA2.out _⟩, by simp [intOf]; omega⟩
        · clear h3 hil
          have k3m : decide (0 < i) = false := decide_eq_false (by omega)
          go_wp2_with fail
          go_quiet (fail)
          go_wp2_with fail
          exact ⟨⟨i + 1, by simp, hlt, HB2.out _, HA2.out _⟩, by simp [intOf]; omega⟩
      · have hlt' : ¬ (i : Int) < (ln : Int) := by omega
        have ei : i = ln := by omega
        subst ei
        go_wp2_with fail
        go_meet
        case rel =>
          refine ⟨?_, HB⟩
          have h := HA.out
          have e : (fun k : Nat => decide ((k : Int) ∈ (dst T n d q).take i)) = fun k : Nat => decide ((k : Int) ∈ dst T n d q) := by
            rw [← HLN.out, List.take_length]
          rw [e] at h
          show BA _ _ _ _
          unfold BA at h ⊢
          rw [h]
          congr 3
          apply List.map_congr_left
          intro k hk
          rw [List.mem_range] at hk
          congr 1
          rw [Bool.eq_iff_iff, decide_eq_true_iff, dst_mem]
          constructor
          · rintro ⟨m, e1, -, e3⟩
            have : k = m := by omega
            subst this
            show (!likeA T n d k) = true
            rw [e3]; rfl
          · intro h'
            exact ⟨k, rfl, hk, by simpa using h'⟩
  case rest =>
    obtain ⟨HA2, HB2⟩ := hcut
    apply_assumption
    exact tail14 T p c p2 n c2 d q gi w0 wc HEQ (HT.out.next HB2.out) (HI.out.next HB2.out) HS hn12 HCO HA2 (HB0.out.tr HB2.out) _ _ _ _ _ _ _ _ _ _ _ _ _ _ _ _ _ _ _ _ _ _ _ _ _ _ _ _ _ _ _ _ _ _ _ _ _ _ _ _ _ _ _ _ _ _ _ _ _ _ _ _ _ _ _ _ _ _ _ _ _ _ _ _ _ _ _ _ _ _ _ _ _ _ _ _ _ _ _ _ _ _ _ _ _ _ _ _ _ _ _ _ _ _ _ _ _ _ _ _ _ _ _ _ _ _ _ _ _ _ _ _ _ _ _ _ _ _ _ _ _ _ _ _ _ _ _ _ _ _ _ _ _ _ _ _ _ _ _ _ _
end Go.Proofs.Ytehamdkjdbaceaa.so
