
/- The document's Has, sccsame.Cells at two lists that are the same, and scclaw6.at. Conditions: as each theorem says. -/
import Derived.Test.YtlaeoofjoofbcaaGreatDoorFnc
namespace Go.Proofs.YtlaeoofjoofbcaaGreatDoor.fw
open Go.RowKit Go.Sort
theorem neq28 (a b c d : Int) (W : World) : (binOp BinOp.neq 28 (.agg #[.int .i64 a, .int .i64 b]) (.agg #[.int .i64 c, .int .i64 d])).run Tryz.prog W = .ok (.bool (!(decide (a = c) && decide (b = d)))) W := by
  rw [run_neq_struct, show (10000 : Nat) = 9998 + 2 from rfl, ps.eqIn30]; rfl
/-- Is a cell among these? -/
def hasB (X : List (Int × Int)) (c r : Int) : Bool := X.any fun x => decide (x.1 = c) && decide (x.2 = r)
theorem RV.two {w : World} {v : Value} {X : List (Int × Int)} {wx : World} (h : RV cL w v X wx) {i : Nat} {x : Int × Int} (hx : X[i]? = some x) : ∃ g c, v = .slice (some ⟨g, 0, none⟩) X.length c ∧ wx.cell? ⟨g, i * 2, none⟩ = some (.int .i64 x.1) ∧ wx.cell? ⟨g, i * 2 + 1, none⟩ = some (.int .i64 x.2) := by
  obtain ⟨g, c, e1, -, -, hc⟩ := h.at hx
  exact ⟨g, c, e1, hc 0 _ rfl, hc 1 _ rfl⟩
set_option maxRecDepth 1000000 in
set_option maxHeartbeats 4000000 in
theorem rhas_any (X : List (Int × Int)) (v : Value) (w0 w : World) (hv : RV cL w0 v X w) (hl : X.length ≤ 100000) (c r : Int) :
    Calls Tryz.prog 15 #[v, .agg #[.int .i64 c, .int .i64 r]] w fun e w' => e = .returned (.bool (hasB X c r)) ∧ Bw w w' := by
  have HV : Hid (RV cL w0 v X w) := hv
  have hl9 : (X.length : Int) ≤ 100000 := by omega
  obtain ⟨pX, cX, eV, -⟩ := hv.form
  subst eV
  clear hv hl
  go_enter Tryz.func15, Tryz.ntmps15
  go_upto_block 0 with fail
  have HA : Hid ((w.alloc (.cells #[.int .i64 c, .int .i64 r] 28)).heap[w.heap.size]? = some (.cells #[.int .i64 c, .int .i64 r] 28) ∧ Bw w (w.alloc (.cells #[.int .i64 c, .int .i64 r] 28))) := ⟨heap_alloc_new _ _, Bw.al _ _⟩
  generalize w.alloc (.cells #[.int .i64 c, .int .i64 r] 28) = w1 at *
  generalize w.heap.size = gB at *
  go_cut [] (fun wx => Hid (hasB X c r = false ∧ Bw w wx))
  case first =>
    go_wp2_with fail
    go_loopw [5] (fun s5 wr => ∃ i : Nat, s5 = .int .i64 (i : Int) ∧ i ≤ X.length ∧ Hid (hasB (X.take i) c r = false ∧ Bw w1 wr)) (fun s5 _ => X.length - (intOf s5).toNat)
    case atStart => exact ⟨0, rfl, Nat.zero_le _, rfl, Below.refl _ _⟩
    case round =>
      obtain ⟨i, rfl, hi, HR⟩ := hrel
      by_cases hlt : i < X.length
      · have hlt' : (i : Int) < (X.length : Int) := by omega
        have hi0 : (0 : Int) ≤ (i : Int) := by omega
        have hx : X[i]? = some X[i] := List.getElem?_eq_getElem hlt
        obtain ⟨x, ex⟩ : ∃ x, X[i] = x := ⟨_, rfl⟩
        rw [ex] at hx
        have HHS : Hid (hasB (X.take (i + 1)) c r = (hasB (X.take i) c r || (decide (x.1 = c) && decide (x.2 = r)))) := by
          show _ = _
          unfold hasB
          rw [List.take_add_one, hx]
          simp [List.any_append]
        have HIN : Hid ((decide (x.1 = c) && decide (x.2 = r)) = true → hasB X c r = true) := by
          intro h
          unfold hasB
          rw [List.any_eq_true]
          exact ⟨x, List.mem_of_getElem? hx, h⟩
        obtain ⟨gX, k9, e1, q0, q1⟩ := (HV.out.next (HA.out.2.tr HR.out.2)).two hx
        injection e1 with e2 e3 e4
        subst e2
        have hB : wr.heap[gB]? = some (.cells #[.int .i64 c, .int .i64 r] 28) := by
          rw [HR.out.2.block gB (Array.getElem?_eq_some_iff.1 HA.out.1).1]
          exact HA.out.1
        have d0 : wr.cell? ⟨gB, 0, none⟩ = some (.int .i64 c) := by rw [cell_of_row wr gB 0 _ _ (0, 0) hB]; rfl
        have d1 : wr.cell? ⟨gB, 1, none⟩ = some (.int .i64 r) := by rw [cell_of_row wr gB 1 _ _ (0, 0) hB]; rfl
        have e28 := fun W => ps.eql30 x.1 x.2 c r W
        clear hx ex hB e3 e4
        obtain ⟨xc, xr⟩ := x
        dsimp only at q0 q1 HHS HIN e28
        go_wp2_with fail
        go_cut [17] (fun s17 wx => s17 = .bool (decide (xc = c) && decide (xr = r)) ∧ wx = wr.drew)
        case first =>
          go_region
          all_goals
            go_wp2_with fail
            go_meet
            case rel => exact ⟨rfl, rfl⟩
        case rest =>
        obtain ⟨rfl, rfl⟩ := hcut
        obtain ⟨bb, ebb⟩ : ∃ b, (decide (xc = c) && decide (xr = r)) = b := ⟨_, rfl⟩
        rw [ebb] at HHS HIN ⊢
        apply_assumption
        clear q0 q1 d0 d1 e28 ebb
        cases bb
        · have HR2 : Hid (hasB (X.take (i + 1)) c r = false ∧ Bw w1 wr.drew) := ⟨by rw [HHS.out, HR.out.1]; rfl, HR.out.2.drew⟩
          go_wp2_with fail
          exact ⟨⟨i + 1, rfl, hlt, HR2⟩, by simp [intOf]; omega⟩
        · have HT : Hid (hasB X c r = true) := HIN.out rfl
          have HBW : Hid (Bw w wr.drew) := HA.out.2.tr HR.out.2.drew
          go_wp2_with fail
          go_ret
          exact ⟨by rw [HT.out]; rfl, HBW⟩
      · have hlt' : ¬ (i : Int) < (X.length : Int) := by omega
        have e1 : X.take i = X := List.take_of_length_le (by omega)
        rw [e1] at HR
        go_wp2_with fail
        go_meet
        case rel => exact ⟨HR.out.1, HA.out.2.tr HR.out.2⟩
  case rest =>
  have HC := hcut
  clear hcut
  apply_assumption
  go_wp2_with fail
  go_ret
  exact ⟨by rw [HC.out.1]; rfl, HC.out.2⟩
set_option maxRecDepth 1000000 in
set_option maxHeartbeats 4000000 in
theorem rcells_any (X : List (Int × Int)) (v v' : Value) (w0 w0' w : World) (hv : RV cL w0 v X w) (hv' : RV cL w0' v' X w) (hl : X.length ≤ 100000) :
    Calls Tryz.prog 10 #[v, v'] w fun e w' => e = .returned (.bool true) ∧ Bw w w' := by
  have HV : Hid (RV cL w0 v X w) := hv
  have HV' : Hid (RV cL w0' v' X w) := hv'
  have hl9 : (X.length : Int) ≤ 100000 := by omega
  obtain ⟨pX, cX, eV, -⟩ := hv.form
  subst eV
  obtain ⟨pX', cX', eV', -⟩ := hv'.form
  subst eV'
  clear hv hl hv'
  go_enter Tryz.func10, Tryz.ntmps10
  go_upto_block 0 with fail
  go_cut [] (fun wx => Hid (Bw w wx))
  case first =>
    go_wp2_with fail
    go_loopw [5] (fun s5 wr => ∃ i : Nat, s5 = .int .i64 (i : Int) ∧ i ≤ X.length ∧ Hid (Bw w wr)) (fun s5 _ => X.length - (intOf s5).toNat)
    case atStart => exact ⟨0, rfl, Nat.zero_le _, Below.refl _ _⟩
    case round =>
      obtain ⟨i, rfl, hi, HR⟩ := hrel
      by_cases hlt : i < X.length
      · have hlt' : (i : Int) < (X.length : Int) := by omega
        have hi0 : (0 : Int) ≤ (i : Int) := by omega
        have hx : X[i]? = some X[i] := List.getElem?_eq_getElem hlt
        obtain ⟨x, ex⟩ : ∃ x, X[i] = x := ⟨_, rfl⟩
        rw [ex] at hx
        obtain ⟨gX, k9, e1, q0, q1⟩ := (HV.out.next HR.out).two hx
        injection e1 with e2 e3 e4
        subst e2
        obtain ⟨gY, k8, e1', r0, r1⟩ := (HV'.out.next HR.out).two hx
        injection e1' with e2' e3' e4'
        subst e2'
        have e28 : ∀ W, (binOp BinOp.neq 28 (.agg #[.int .i64 x.1, .int .i64 x.2]) (.agg #[.int .i64 x.1, .int .i64 x.2])).run Tryz.prog W = .ok (.bool false) W := fun W => by rw [neq28]; simp
        clear hx ex e3 e4 e3' e4'
        obtain ⟨xc, xr⟩ := x
        dsimp only at q0 q1 r0 r1 e28
        go_wp2_with fail
        go_cut [25] (fun s25 wx => s25 = .bool false ∧ wx = wr.drew)
        case first =>
          go_region
          all_goals
            go_wp2_with fail
            go_meet
            case rel => exact ⟨rfl, rfl⟩
        case rest =>
        obtain ⟨rfl, rfl⟩ := hcut
        apply_assumption
        clear q0 q1 r0 r1 e28
        have HR2 : Hid (Bw w wr.drew) := HR.out.drew
        go_wp2_with fail
        exact ⟨⟨i + 1, rfl, hlt, HR2⟩, by simp [intOf]; omega⟩
      · have hlt' : ¬ (i : Int) < (X.length : Int) := by omega
        go_wp2_with fail
        go_meet
        case rel => exact HR
  case rest =>
  have HC := hcut
  clear hcut
  apply_assumption
  go_wp2_with fail
  go_ret
  exact ⟨rfl, HC.out⟩
set_option maxRecDepth 1000000 in
theorem at_any (c r : Int) (w : World) :
    Calls Tryz.prog 14 #[.int .i64 c, .int .i64 r] w fun e w' => e = .returned (.agg #[.int .i64 c, .int .i64 r]) ∧ Bw w w' := by
  go_enter Tryz.func14, Tryz.ntmps14
  go_wp2_with fail
  exact bodyPost_ret (v := .agg #[.int .i64 c, .int .i64 r]) (by simp [results, Tryz.results14, go_sem]) rfl ⟨rfl, Bw.al _ _⟩
end Go.Proofs.YtlaeoofjoofbcaaGreatDoor.fw
