
/- find.Like, whole. Conditions: none. -/
import Derived.Test.YtilebjcpmnclmaaDoorFmi
namespace Go.Proofs.YtilebjcpmnclmaaDoor.fw
open Go.RowKit Go.Sort
/-- What is reached behind k pieces. -/
def rch (s : List UInt8) (X : List Mk) (k : Nat) : Nat → Bool := (X.take k).foldl (fun r p => stp s p r) (fun i => decide (i = 0))
theorem rch_next (s : List UInt8) (X : List Mk) {k : Nat} {p : Mk} (h : X[k]? = some p) : rch s X (k + 1) = stp s p (rch s X k) := by
  unfold rch
  rw [List.take_add_one, h]
  simp [List.foldl_append]
theorem upto_same {r r' : Nat → Bool} {i : Nat} (h : ∀ j, j ≤ i → r j = r' j) : upto r i = upto r' i := by
  induction i with
  | zero => exact h 0 (Nat.le_refl _)
  | succ i ih => unfold upto; rw [ih fun j hj => h j (by omega), h (i + 1) (Nat.le_refl _)]
theorem stp_same (s : List UInt8) (p : Mk) {r r' : Nat → Bool} {n : Nat} (h : ∀ i, i ≤ n → r i = r' i) {i : Nat} (hi : i ≤ n) : stp s p r i = stp s p r' i := by
  by_cases hp : p = .many
  · subst hp
    exact upto_same fun j hj => h j (by omega)
  · cases i with
    | zero => rw [stp_zero s p hp, stp_zero s p hp]
    | succ i =>
      cases e : s[i]? with
      | none => cases p <;> first | exact absurd rfl hp | simp [stp, e]
      | some c => rw [stp_succ s p hp r e, stp_succ s p hp r' e, h i (by omega)]
theorem pcs_form (p : Mk) : ∃ a b z, pcs p = [.bool a, .bool b, .int .u8 z] := by
  cases p with
  | many => exact ⟨_, _, _, rfl⟩
  | one => exact ⟨_, _, _, rfl⟩
  | byte b => exact ⟨_, _, _, rfl⟩
theorem build_ends (w : World) : (Instr.build 40 #[(0, .bool true)]).run Tryd.prog w = .ok (.agg (bls fun i => decide (i = 0))) w := by
  rw [← bls_first]
  exact run_build w 40 _ _ (by kernel_rfl)
theorem wpList_build_ends {ops : Array Oper} {rest : List Oper} {op : Oper} {a : Act} {w : World} {Q : Exit → Act → World → Prop} (hgd : op.guard = none) (ho : op.op = .build 40 #[(0, .const (.bool true))])
    (h : wpList Tryd.prog ops Q rest (a.put op.dst (.agg (bls fun i => decide (i = 0)))) w) : wpList Tryd.prog ops Q (op :: rest) a w :=
  wpList_plain hgd fun _ hK => by
    have e := build_ends w
    unfold Oper.wp execOp
    simp only [ho, List.map_toArray, List.map_cons, List.map_nil, Act.eval, e, Sem.run_bind, Sem.run_pure, Result.andThen_ok]
    exact hK _ _ h
theorem wpList_alloc_ends {ops : Array Oper} {rest : List Oper} {op : Oper} {a : Act} {w : World} {Q : Exit → Act → World → Prop} (hgd : op.guard = none) (ho : op.op = .alloc 40)
    (h : wpList Tryd.prog ops Q rest (a.put op.dst (.pointer (some ⟨w.heap.size, 0, none⟩))) (w.alloc (.cells (bls fun _ => false) 40))) : wpList Tryd.prog ops Q (op :: rest) a w :=
  wpList_plain hgd fun _ hK => by
    have e := (zero_of_info infoE).1 w
    rw [← bls_none] at e
    unfold Oper.wp execOp
    simp only [ho, Instr.alloc, e, newVar, newRow, newObj, Value.cells, Sem.run_bind, Sem.run_pure, Result.andThen_ok]
    exact hK _ _ h
theorem infoP3 : (Tryd.prog.info? 42).map (·.size) = some 3 := by kernel_rfl
set_option maxRecDepth 1000000 in
set_option maxHeartbeats 4000000 in
theorem like_in (s m : ByteArray) (w : World) (hs : s.size ≤ 200) (hm : m.size ≤ 200) :
    Calls Tryd.prog 6 #[.string s, .string m] w fun e w' => ((rdL false m.toList).2 = true ∧ e = .returned (.tuple #[.bool false, .iface 35 (.int .i64 2)]) ∧ Bw w w') ∨ ((rdL false m.toList).2 = false ∧ e = .returned (.tuple #[.bool (lkL (rdL false m.toList).1 s.toList), .nilIface]) ∧ Bw w w') := by
  obtain ⟨hz, hi⟩ := zero_of_info infoE
  have hs' : ¬ (s.size : Int) > 200 := by omega
  have hm' : ¬ (m.size : Int) > 200 := by omega
  go_enter Tryd.func6, Tryd.ntmps6
  go_wp2_with fail
  refine (readMask_any m w hm).mono ?_
  rintro e w1 (⟨h1, rfl, hb⟩ | ⟨h1, v, rfl, hv⟩)
  · have H1 : Hid (Bw w w1) := hb
    have H2 : Hid ((rdL false m.toList).2 = true) := h1
    clear h1 hb hz
    dsimp only
    go_wp2_with fail
    exact bodyPost_ret (v := .tuple #[.bool false, .iface 35 (.int .i64 2)]) (by simp [results, Tryd.results6, go_sem]) rfl (.inl ⟨H2, rfl, H1⟩)
  · have H1 : Hid (RV pL w v (rdL false m.toList).1 w1) := hv
    have H2 : Hid ((rdL false m.toList).2 = false) := h1
    clear h1 hv
    dsimp only
    go_upto_region 6 with fail
    go_cut [8] (fun s8 wx => ∃ g, s8 = .pointer (some ⟨g, 0, none⟩) ∧ w1.heap.size = g ∧ Hid (Bw w1 wx ∧ BB wx g (fun i => decide (i = 0))))
    case first =>
      refine wp_region_lit ?_
      refine wpList_build_ends rfl rfl ?_
      refine wpList_alloc_ends rfl rfl ?_
      refine wpList_store_row rfl 40 _ _ rfl w1.heap.size (bls fun i => decide (i = 0)) rfl rfl 40 _ (heap_alloc_new _ _) (by rw [bls_size]; exact hi) (by rw [bls_size, bls_size]) (bls_one _) ?_
      go_wp2_with fail
      go_meet
      case rel =>
        exact ⟨_, rfl, rfl, bl_row (Bw.al _ _) (Nat.le_refl _) _, BB.row (show BB _ _ _ from heap_alloc_new _ _) _⟩
    case rest =>
    obtain ⟨g, rfl, hg, HC⟩ := hcut
    have HG : Hid (w1.heap.size = g) := hg
    clear hg hz
    apply_assumption
    obtain ⟨X, eX⟩ : ∃ X, (rdL false m.toList).1 = X := ⟨_, rfl⟩
    have HXX : Hid ((rdL false m.toList).1 = X) := eX
    rw [eX] at H1
    have HLK : Hid (rch s.toList X X.length s.size = lkL (rdL false m.toList).1 s.toList) := by
      show _ = _
      rw [eX, ← fold_lk, size_list]
      unfold rch
      rw [List.take_length]
    clear eX
    obtain ⟨pX, cX, eV, -⟩ := H1.out.form
    subst eV
    go_upto_block 0 with fail
    go_cut [] (fun wx => ∃ r, Hid (Bw w1 wx ∧ BB wx g r ∧ ∀ i, i ≤ s.size → r i = rch s.toList X X.length i))
    case first =>
      go_wp2_with fail
      go_loopw [31] (fun s31 wr => ∃ (k : Nat) (r : Nat → Bool), s31 = .int .i64 (k : Int) ∧ k ≤ X.length ∧ Hid (Bw w1 wr ∧ BB wr g r ∧ ∀ i, i ≤ s.size → r i = rch s.toList X k i)) (fun s31 _ => X.length - (intOf s31).toNat)
      case atStart => exact ⟨0, _, rfl, Nat.zero_le _, HC.out.1, HC.out.2, fun i _ => rfl⟩
      case round =>
        obtain ⟨k, r, rfl, hk, HR⟩ := hrel
        by_cases hlt : k < X.length
        · have hlt' : (k : Int) < (X.length : Int) := by omega
          have hk0 : (0 : Int) ≤ (k : Int) := by omega
          have hk9 : (k : Int) < 200 := by
            have h9 := rd_len m.toList false
            rw [HXX.out, size_list] at h9
            omega
          have hx : X[k]? = some X[k] := List.getElem?_eq_getElem hlt
          obtain ⟨gX, c, e1, hcX, hgX, hcell⟩ := (H1.out.next HR.out.1).at hx
          injection e1 with e2 e3 e4
          subst e2
          clear e3 e4
          obtain ⟨pa, pb, pz, ep⟩ := pcs_form X[k]
          have hc0 : wr.cell? ⟨gX, k * 3 + 0, none⟩ = some (.bool pa) := hcell 0 _ (by show (pcs _)[0]? = _; rw [ep]; rfl)
          have hc1 : wr.cell? ⟨gX, k * 3 + 1, none⟩ = some (.bool pb) := hcell 1 _ (by show (pcs _)[1]? = _; rw [ep]; rfl)
          have hc2 : wr.cell? ⟨gX, k * 3 + 2, none⟩ = some (.int .u8 pz) := hcell 2 _ (by show (pcs _)[2]? = _; rw [ep]; rfl)
          rw [Nat.add_zero] at hc0
          have HF : Hid (∀ wx, Calls Tryd.prog 9 #[.agg #[.bool pa, .bool pb, .int .u8 pz], .agg (bls r), .string s] wx fun e w' => ∃ r', e = .returned (.agg (bls r')) ∧ (∀ i, i ≤ s.size → r' i = rch s.toList X (k + 1) i) ∧ Bw wx w') := by
            intro wx
            have h := from_any X[k] r s wx hs
            rw [ep] at h
            refine h.mono ?_
            rintro e w' ⟨r', h1, h2, h3⟩
            refine ⟨r', h1, fun i hi => ?_, h3⟩
            rw [h2 i hi, rch_next s.toList X hx]
            exact stp_same _ _ HR.out.2.2 hi
          have HR2 : Hid (Bw w1 wr ∧ BB wr g r) := ⟨HR.out.1, HR.out.2.1⟩
          clear HR hx hcell hcX ep
          go_upto_region 10 with fail
          clear hc0 hc1 hc2
          have HR3 : Hid (Bw w1 (wr.alloc (.cells #[.bool pa, .bool pb, .int .u8 pz] 42)) ∧ BB (wr.alloc (.cells #[.bool pa, .bool pb, .int .u8 pz] 42)) g r ∧ (wr.alloc (.cells #[.bool pa, .bool pb, .int .u8 pz] 42)).heap[wr.heap.size]? = some (.cells #[.bool pa, .bool pb, .int .u8 pz] 42)) := ⟨HR2.out.1.tr (Bw.al _ _), HR2.out.2.next (Bw.al _ _), heap_alloc_new _ _⟩
          clear HR2
          generalize wr.alloc (.cells #[.bool pa, .bool pb, .int .u8 pz] 42) = w4 at *
          generalize wr.heap.size = gp at *
          refine wp_region_lit ?_
          refine wpList_load_row rfl 42 _ rfl gp rfl 42 #[.bool pa, .bool pb, .int .u8 pz] (0, 0) _ HR3.out.2.2 Tryd.underlying42 rfl infoP3 ?_
          refine wpList_load_row rfl 40 _ rfl g rfl 40 (bls r) (0, 0) _ HR3.out.2.1 Tryd.underlying40 rfl (by rw [bls_size]; exact hi) ?_
          go_wp2_with fail
          refine (HF.out _).mono ?_
          rintro e w5 ⟨r', rfl, hr', hb⟩
          have HR4 : Hid (Bw w1 w5 ∧ BB w5 g r ∧ ∀ i, i ≤ s.size → r' i = rch s.toList X (k + 1) i) := ⟨HR3.out.1.tr hb, HR3.out.2.1.next hb, hr'⟩
          clear HR3 hb hr' HF
          dsimp only
          apply_assumption
          refine wpList_store_row rfl 40 _ _ rfl g (bls r') rfl rfl 40 _ HR4.out.2.1 (by rw [bls_size]; exact hi) (by rw [bls_size, bls_size]) (bls_one _) ?_
          go_wp2_with fail
          exact ⟨⟨k + 1, r', rfl, hlt, bl_row HR4.out.1 (Nat.le_of_eq HG.out) _, HR4.out.2.1.row _, HR4.out.2.2⟩, by simp [intOf]; omega⟩
        · have hlt' : ¬ (k : Int) < (X.length : Int) := by omega
          have e : k = X.length := by omega
          subst e
          go_wp2_with fail
          go_meet
          case rel => exact ⟨r, HR⟩
    case rest =>
    obtain ⟨r, HE⟩ := hcut
    apply_assumption
    have hin : (s.size : Int) < 201 := by omega
    have hi0 : (0 : Int) ≤ (s.size : Int) := by omega
    have hc0 := HE.out.2.1.cell (i := s.size) (by omega)
    rw [HE.out.2.2 s.size (Nat.le_refl _), HLK.out] at hc0
    go_wp2_with fail
    exact bodyPost_ret (v := .tuple #[.bool (lkL (rdL false m.toList).1 s.toList), .nilIface]) (by simp [results, Tryd.results6, go_sem]) rfl (.inr ⟨H2, rfl, H1.out.below.tr HE.out.1⟩)
set_option maxRecDepth 1000000 in
set_option maxHeartbeats 4000000 in
theorem like_out (s m : ByteArray) (w : World) (h : 200 < s.size ∨ 200 < m.size) :
    Calls Tryd.prog 6 #[.string s, .string m] w fun e w' => e = .returned (.tuple #[.bool false, .iface 35 (.int .i64 4)]) ∧ Bw w w' := by
  by_cases h1 : 200 < s.size
  · have hs' : (s.size : Int) > 200 := by omega
    go_enter Tryd.func6, Tryd.ntmps6
    go_wp2_with fail
    exact bodyPost_ret (v := .tuple #[.bool false, .iface 35 (.int .i64 4)]) (by simp [results, Tryd.results6, go_sem]) rfl ⟨rfl, Below.refl _ _⟩
  · have hs' : ¬ (s.size : Int) > 200 := by omega
    have hm' : (m.size : Int) > 200 := by omega
    go_enter Tryd.func6, Tryd.ntmps6
    go_wp2_with fail
    exact bodyPost_ret (v := .tuple #[.bool false, .iface 35 (.int .i64 4)]) (by simp [results, Tryd.results6, go_sem]) rfl ⟨rfl, Below.refl _ _⟩
/-- What Like answers of a mask that is one. -/
theorem like_ok (s m : ByteArray) (w : World) (hs : s.size ≤ 200) (hm : m.size ≤ 200) (h : liE m.toList = 0) :
    Calls Tryd.prog 6 #[.string s, .string m] w fun e w' => e = .returned (.tuple #[.bool (liB s.toList m.toList), .nilIface]) ∧ Bw w w' := by
  refine (like_in s m w hs hm).mono ?_
  have e1 := (mk_rd m.toList).1
  unfold rdO at e1
  rintro e w' (⟨h1, rfl, h3⟩ | ⟨h1, rfl, h3⟩)
  · rw [h1, if_pos rfl] at e1
    unfold liE at h
    rw [e1] at h
    cases h
  · rw [h1] at e1
    have e2 : mkL m.toList = some (rdL false m.toList).1 := by simpa using e1
    refine ⟨?_, h3⟩
    unfold liB
    rw [e2]
end Go.Proofs.YtilebjcpmnclmaaDoor.fw
