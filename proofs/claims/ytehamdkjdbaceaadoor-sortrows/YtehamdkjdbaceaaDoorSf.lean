
/- Package sort: Distinct. Conditions: as each theorem says. -/
import Derived.Test.YtehamdkjdbaceaaDoorSe
namespace Go.Proofs.YtehamdkjdbaceaaDoor.so
open Go.RowKit Go.Sort Go.Shelf
/-- Is a row like one ahead? -/
def likeA (T : Tb) (n : Nat) (c : Nat → Int) (i : Nat) : Bool := (List.range i).any fun k => alk (T.v k) (T.v i) n c
theorem likeA_true {T : Tb} {n : Nat} {c : Nat → Int} {i : Nat} : likeA T n c i = true ↔ ∃ k, k < i ∧ alk (T.v k) (T.v i) n c = true := by
  unfold likeA
  simp
/-- The rows that are like none ahead. -/
def dst (T : Tb) (n : Nat) (c : Nat → Int) : Nat → List Int
  | 0 => []
  | j + 1 => if likeA T n c j = true then dst T n c j else dst T n c j ++ [(j : Int)]
theorem dst_len (T : Tb) (n : Nat) (c : Nat → Int) (j : Nat) : (dst T n c j).length ≤ j := by
  induction j with
  | zero => simp [dst]
  | succ j ih =>
    unfold dst
    split
    · omega
    · rw [List.length_append, List.length_singleton]; omega
theorem dst_yes {T : Tb} {n : Nat} {c : Nat → Int} {j : Nat} (h : likeA T n c j = true) : dst T n c (j + 1) = dst T n c j := by rw [dst, if_pos h]
theorem dst_no {T : Tb} {n : Nat} {c : Nat → Int} {j : Nat} (h : likeA T n c j = false) : dst T n c (j + 1) = dst T n c j ++ [(j : Int)] := by rw [dst, if_neg (by simp [h])]
theorem TM.cut {w : World} {p : Option Addr} {T : Tb} (h : TM w p T) {m : Nat} (hm : m ≤ T.q) : TM w p ⟨m, T.P, T.L, T.C, T.v⟩ := by
  rcases h with h | ⟨g, o, h1, h2, h3⟩
  · left; show m = 0; omega
  · exact .inr ⟨g, o, h1, h2, fun i hi => h3 i (Nat.lt_of_lt_of_le hi hm)⟩
set_option maxRecDepth 100000 in
set_option maxHeartbeats 4000000 in
theorem distinct_any (T : Tb) (p : Option Addr) (c : Nat) (p2 : Option Addr) (n c2 : Nat) (d : Nat → Int) (w : World) (hT : TM w p T) (hI : IM w p2 n d) (hq : T.q ≤ 9223372036854775807) (hn : n ≤ 9223372036854775807) (hL : ∀ i, i < T.q → T.L i ≤ 9223372036854775807) (hpc : T.q ≤ c) :
    Calls Tryd.prog 15 #[.slice p T.q c, .slice p2 n c2] w fun e w' => (∃ x v, e = .returned (.tuple #[v, errV x]) ∧ CF T n d x ∧ (x ≠ 0 → v = .slice none 0 0) ∧ (x = 0 → ∃ W, Bw w W ∧ IV W v (dst T n d T.q) w')) ∧ Bw w w' := by
  have HC : Hid (∀ wx, TM wx p T → IM wx p2 n d → Calls Tryd.prog 21 #[.slice p T.q c, .slice p2 n c2] wx fun e w' => (∃ x, e = .returned (errV x) ∧ CF T n d x) ∧ Bw wx w') := fun wx h1 h2 => checkWith_any T p c p2 n c2 d wx h1 h2 hq hn hL
  have HT : Hid (TM w p T) := hT
  have HI : Hid (IM w p2 n d) := hI
  clear hT hI hL
  obtain ⟨W0, hW0⟩ : ∃ W, w.alloc (.cells #[.slice p2 n c2] 24) = W := ⟨_, rfl⟩
  have hbx : Bx W0 w.heap.size (.slice p2 n c2) := by rw [← hW0]; exact ⟨by simp, by simp⟩
  have HB0 : Hid (Bw w W0) := by rw [← hW0]; exact Bw.al _ _
  have HBX : Hid (Bx W0 w.heap.size (.slice p2 n c2)) := hbx
  obtain ⟨y3, -⟩ := hbx
  obtain ⟨q, eq⟩ : ∃ q, T.q = q := ⟨_, rfl⟩
  have HEQ : Hid (T.q = q) := eq
  rw [eq] at HC hq hpc ⊢
  clear eq
  obtain ⟨b3, hb3⟩ : ∃ b, w.heap.size = b := ⟨_, rfl⟩
  rw [hb3] at HBX y3
  go_enter Tryd.func15, Tryd.ntmps15
  go_wp2_with fail
  refine (HC.out W0 (HT.out.next HB0.out) (HI.out.next HB0.out)).mono ?_
  rintro e w1 ⟨⟨x, rfl, hx⟩, hb⟩
  have HX : Hid (CF T n d x) := hx
  have HB1 : Hid (Bw w w1) := HB0.out.tr hb
  have HBX1 : Hid (Bx w1 b3 (.slice p2 n c2)) := ⟨(hb.cell (p := ⟨b3, 0, none⟩) HBX.out.2).trans HBX.out.1, Nat.lt_of_lt_of_le HBX.out.2 hb.size⟩
  clear hx hb HC y3 HBX HB0 hW0
  by_cases hx0 : x = 0
  · subst hx0
    rw [errV_0]
    obtain ⟨hS, hn12, hcol⟩ := HX.out.zero
    have HS : Hid (Snd T) := hS
    have HCO : Hid (∀ i, i < n → colOk T (d i)) := hcol
    have hq60 : q ≤ 60 := by rw [← HEQ.out]; exact hS.few
    clear hS hcol
    go_wp2_with fail
    go_loopw [7, 19] (fun vl vi wr => ∃ j : Nat, vi = .int .i64 j ∧ j ≤ q ∧ Hid (IV w1 vl (dst T n d j) wr)) (fun _ vi _ => q - (intOf vi).toNat)
    case atStart => exact ⟨0, rfl, Nat.zero_le _, IV.nil w1⟩
    case round =>
      obtain ⟨j, rfl, hj, HV⟩ := hrel
      by_cases hlt : j < q
      · have hlt' : (j : Int) < (q : Int) := by omega
        have hj0 : (0 : Int) ≤ (j : Int) := by omega
        have hjc : (j : Int) ≤ (c : Int) := by omega
        rcases HT.out.next (HB1.out.tr HV.out.below) with h | ⟨g, o, rfl, hg, h3⟩
        · have := HEQ.out; omega
        obtain ⟨z0, hvm⟩ := h3 j (by rw [HEQ.out]; exact hlt)
        clear h3 hg
        obtain ⟨pj, hp⟩ : ∃ x, T.P j = x := ⟨_, rfl⟩
        obtain ⟨lj, hl⟩ : ∃ x, T.L j = x := ⟨_, rfl⟩
        obtain ⟨cj, hc⟩ : ∃ x, T.C j = x := ⟨_, rfl⟩
        rw [hp, hl, hc] at z0
        rw [hp, hl] at hvm
        have hx2 : Bx (wr.alloc (.cells #[.slice pj lj cj] 42)) wr.heap.size (.slice pj lj cj) := ⟨by simp, by simp⟩
        have hbA : Bw wr (wr.alloc (.cells #[.slice pj lj cj] 42)) := Bw.al _ _
        have HG := contains_any (some ⟨g, o, none⟩) j c T.P T.L T.C T.v (fun k => alk (T.v k) (T.v j) n d) wr.heap.size b3 (wr.alloc (.cells #[.slice pj lj cj] 42)) (by omega) ((HT.out.next ((HB1.out.tr HV.out.below).tr hbA)).cut (by rw [HEQ.out]; omega)) (fun k hk wx hwx => by
          have hbW : Bw wr wx := hbA.tr hwx.below
          have hb1 : Bw w1 wx := HV.out.below.tr hbW
          rcases HT.out.next (HB1.out.tr hb1) with h | ⟨g', o', -, -, h3⟩
          · have := HEQ.out; omega
          have hkq : k < T.q := by rw [HEQ.out]; omega
          have hjq : j < T.q := by rw [HEQ.out]; omega
          refine like_any (T.P k) (T.L k) (T.C k) (T.v k) pj lj cj (T.v j) p2 n c2 d wx wr.heap.size b3 ⟨(hwx.below.cell (p := ⟨wr.heap.size, 0, none⟩) hx2.2).trans hx2.1, Nat.lt_of_lt_of_le hx2.2 hwx.below.size⟩ ⟨(hb1.cell (p := ⟨b3, 0, none⟩) HBX1.out.2).trans HBX1.out.1, Nat.lt_of_lt_of_le HBX1.out.2 hb1.size⟩ (h3 k hkq).2 (hvm.next hbW) (HI.out.next (HB1.out.tr hb1)) hn12 (fun i hi => ?_)
          have c1 := HS.out.col (HCO.out i hi) hkq
          have c2 := HS.out.col (HCO.out i hi) hjq
          rw [hl] at c2
          exact ⟨c1.1, c1.2.1, c2.2.1⟩)
        clear hx2 hvm hp hl hc
        go_wp2_with fail
        refine HG.mono ?_
        clear HG
        rintro e w2 ⟨⟨x, rfl, hx⟩, hb⟩
        have HV2 : Hid (IV w1 u7 (dst T n d j) w2) := HV.out.next (hbA.tr hb.below)
        have HLX : Hid (likeA T n d j = x) := by
          show likeA T n d j = x
          rw [Bool.eq_iff_iff, likeA_true, hx]
        clear hx hb hbA HV z0
        cases x with
        | true =>
          go_wp2_with fail
          exact ⟨⟨j + 1, by simp, hlt, by rw [dst_yes HLX.out]; exact HV2⟩, by simp [intOf]; omega⟩
        | false =>
          have hlen := dst_len T n d j
          obtain ⟨pv, cv, rfl, -⟩ := HV2.out.im
          obtain ⟨g2, cc, w3, hr, hV3⟩ := HV2.out.one (by omega) (j : Int)
          rw [← dst_no HLX.out] at hV3
          have HV3 : Hid (IV w1 (.slice (some ⟨g2, 0, none⟩) ((dst T n d j).length + 1) cc) (dst T n d (j + 1)) w3) := hV3
          obtain ⟨ln, hln⟩ : ∃ ln, (dst T n d j).length = ln := ⟨_, rfl⟩
          rw [hln] at hr hlen HV3 ⊢
          have HR : Hid ((Builtin.append_ #[24, 24] 24 #[.slice pv ln cv, .slice (some ⟨w2.heap.size, 0, none⟩) 1 1]).run Tryd.prog (w2.alloc (.cells #[.int .i64 (j : Int)] 3)) = .ok (.slice (some ⟨g2, 0, none⟩) (ln + 1) cc) w3) := hr
          clear hV3 HV2 hr
          go_wp2_with (first | (at_builtin; refine wpList_append_eq rfl _ _ 24 rfl _ _ _ _ rfl rfl HR.out ?_))
          exact ⟨⟨j + 1, by simp, hlt, HV3⟩, by simp [intOf]; omega⟩
      · have hj2 : ¬ (j : Int) < (q : Int) := by omega
        have ej : j = q := by omega
        subst ej
        go_wp2_with fail
        refine bodyPost_ret (v := .tuple #[u7, .nilIface]) (by simp [results, Tryd.results15, go_sem]) rfl ?_
        exact ⟨⟨0, _, rfl, HX.out, fun h => absurd rfl h, fun _ => ⟨w1, HB1.out, HV.out⟩⟩, HB1.out.tr HV.out.below⟩
  · rw [errV_of hx0]
    go_wp2_with fail
    refine bodyPost_ret (v := .tuple #[.slice none 0 0, .iface 46 (.int .i64 x)]) (by simp [results, Tryd.results15, go_sem]) rfl ?_
    exact ⟨⟨x, _, by rw [errV_of hx0], HX.out, fun _ => rfl, fun h => absurd h hx0⟩, HB1.out⟩
end Go.Proofs.YtehamdkjdbaceaaDoor.so
