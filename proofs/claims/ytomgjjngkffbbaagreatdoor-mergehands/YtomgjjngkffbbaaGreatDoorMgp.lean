
/- Lists of cells that grow; sccsame.Cells at two lists that are the same. Conditions: as each theorem says. -/
import Derived.Test.YtomgjjngkffbbaaGreatDoorMgc
import Derived.Test.YtomgjjngkffbbaaGreatDoorYb
namespace Go.Proofs.YtomgjjngkffbbaaGreatDoor.fw
open Go.RowKit Go.Sort
/-- How a cell lies. -/
def cL : EL (Int × Int) := ⟨43, 2, fun x => [.int .i64 x.1, .int .i64 x.2], fun _ => rfl, fun x u hu => by simp at hu; rcases hu with rfl | rfl <;> rfl⟩
theorem infoC : (Tryz.prog.info? 43).map (fun i => (i.zero, i.size, i.bytes)) = some (some (.agg #[.int .i64 0, .int .i64 0]), 2, 16) := by kernel_rfl
theorem RV.cell {w : World} {v : Value} {xs : List (Int × Int)} {wx : World} (h : RV cL w v xs wx) (hl : xs.length ≤ 10000) (c r : Int) :
    ∃ g k w', (Builtin.append_ #[33, 33] 33 #[v, .slice (some ⟨wx.heap.size, 0, none⟩) 1 1]).run Tryz.prog (wx.alloc (.cells #[.int .i64 c, .int .i64 r] 43)) = .ok (.slice (some ⟨g, 0, none⟩) (xs.length + 1) k) w' ∧ RV cL w (.slice (some ⟨g, 0, none⟩) (xs.length + 1) k) (xs ++ [(c, r)]) w' :=
  h.one 33 (b := 16) Tryz.underlying33 infoC rfl (by decide) (by omega) (by omega) (c, r) _ rfl
theorem neq28 (a b c d : Int) (W : World) : (binOp BinOp.neq 43 (.agg #[.int .i64 a, .int .i64 b]) (.agg #[.int .i64 c, .int .i64 d])).run Tryz.prog W = .ok (.bool (!(decide (a = c) && decide (b = d)))) W := by
  rw [run_neq_struct, show (10000 : Nat) = 9998 + 2 from rfl, ps.eqIn30]; rfl
theorem RV.two {w : World} {v : Value} {X : List (Int × Int)} {wx : World} (h : RV cL w v X wx) {i : Nat} {x : Int × Int} (hx : X[i]? = some x) : ∃ g c, v = .slice (some ⟨g, 0, none⟩) X.length c ∧ wx.cell? ⟨g, i * 2, none⟩ = some (.int .i64 x.1) ∧ wx.cell? ⟨g, i * 2 + 1, none⟩ = some (.int .i64 x.2) := by
  obtain ⟨g, c, e1, -, -, hc⟩ := h.at hx
  exact ⟨g, c, e1, hc 0 _ rfl, hc 1 _ rfl⟩
set_option maxRecDepth 1000000 in
set_option maxHeartbeats 4000000 in
theorem rcells_any (X : List (Int × Int)) (v v' : Value) (w0 w0' w : World) (hv : RV cL w0 v X w) (hv' : RV cL w0' v' X w) (hl : X.length ≤ 100000) :
    Calls Tryz.prog 17 #[v, v'] w fun e w' => e = .returned (.bool true) ∧ Bw w w' := by
  have HV : Hid (RV cL w0 v X w) := hv
  have HV' : Hid (RV cL w0' v' X w) := hv'
  have hl9 : (X.length : Int) ≤ 100000 := by omega
  obtain ⟨pX, cX, eV, -⟩ := hv.form
  subst eV
  obtain ⟨pX', cX', eV', -⟩ := hv'.form
  subst eV'
  clear hv hl hv'
  go_enter Tryz.func17, Tryz.ntmps17
  go_upto_block 0 with fail
  go_cut [] (fun wx => Hid (Bw w wx))
  case first =>
    go_wp2_with fail
    go_loopw [5] (fun s5 wr => ∃ i : Nat, s5 = .int .i64 (i : Int) ∧ i ≤ X.length ∧ Hid (Bw w wr)) (fun s5 _ => X.length - (intOf s5).toNat)
    case atStart => exact ⟨0, rfl, Nat.zero_le _, Below.refl _ _⟩
    case round =>
      obtain ⟨i, rfl, hi, HR⟩ := hrel
      by_cases hlt : i < X.length
      · have hlt' : (i : Int) < (X.length : Int) := by omega
        have hi0 : (0 : Int) ≤ (i : Int) := by omega
        have hx : X[i]? = some X[i] := List.getElem?_eq_getElem hlt
        obtain ⟨x, ex⟩ : ∃ x, X[i] = x := ⟨_, rfl⟩
        rw [ex] at hx
        obtain ⟨gX, k9, e1, q0, q1⟩ := (HV.out.next HR.out).two hx
        injection e1 with e2 e3 e4
        subst e2
        obtain ⟨gY, k8, e1', r0, r1⟩ := (HV'.out.next HR.out).two hx
        injection e1' with e2' e3' e4'
        subst e2'
        have e28 : ∀ W, (binOp BinOp.neq 43 (.agg #[.int .i64 x.1, .int .i64 x.2]) (.agg #[.int .i64 x.1, .int .i64 x.2])).run Tryz.prog W = .ok (.bool false) W := fun W => by rw [neq28]; simp
        clear hx ex e3 e4 e3' e4'
        obtain ⟨xc, xr⟩ := x
        dsimp only at q0 q1 r0 r1 e28
        go_wp2_with fail
        go_cut [25] (fun s25 wx => s25 = .bool false ∧ wx = wr.drew)
        case first =>
          go_region
          all_goals
            go_wp2_with fail
            go_meet
            case rel => exact ⟨rfl, rfl⟩
        case rest =>
        obtain ⟨rfl, rfl⟩ := hcut
        apply_assumption
        clear q0 q1 r0 r1 e28
        have HR2 : Hid (Bw w wr.drew) := HR.out.drew
        go_wp2_with fail
        exact ⟨⟨i + 1, rfl, hlt, HR2⟩, by simp [intOf]; omega⟩
      · have hlt' : ¬ (i : Int) < (X.length : Int) := by omega
        go_wp2_with fail
        go_meet
        case rel => exact HR
  case rest =>
  have HC := hcut
  clear hcut
  apply_assumption
  go_wp2_with fail
  go_ret
  exact ⟨rfl, HC.out⟩
end Go.Proofs.YtomgjjngkffbbaaGreatDoor.fw
