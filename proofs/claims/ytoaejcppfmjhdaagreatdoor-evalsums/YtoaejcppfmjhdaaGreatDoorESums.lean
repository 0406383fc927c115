/- Proved: the law EvalSums returns true for every list of values and every number: of a column that is cut in two the sums, if none is bad, make the sum of the whole, and so do the counts; least and greatest of the whole are those of its parts. Conditions: the listed package variables start as the program's text lays them (the card ties them). -/
import Derived.Test.YtoaejcppfmjhdaaGreatDoorVf
import Derived.ProofKit
import Derived.OpenShut
import Derived.Deep.Slices
import Derived.Deep.Strs
import Derived.Lib.SmallJoins
import Derived.Test.YtoaejcppfmjhdaaGreatDoorFev
import Derived.Test.YtoaejcppfmjhdaaGreatDoorOut
import Derived.Shelf.Vars
import Derived.Lay
import Derived.MakeChecks
namespace Go.Proofs.YtoaejcppfmjhdaaGreatDoor.ev
open Go.ChangeShapes Go.WideShapes Go.ChangeAt Go.RowKit
theorem vcof3 : Tryz.prog.cellsOf 3 = 1 := by kernel_rfl
theorem vcof9 : Tryz.prog.cellsOf 9 = 1 := by kernel_rfl
theorem vcof31 : Tryz.prog.cellsOf 31 = 3 := by kernel_rfl
theorem add_plain (g o k : Nat) : (⟨g, o, none⟩ : Addr).add k = ⟨g, o + k, none⟩ := by
  unfold Addr.add
  by_cases h : k = 0 <;> simp [h]
theorem list3 {α : Type} {l : List α} (h : l.length = 3) : ∃ a b c, l = [a, b, c] := by
  match l, h with
  | [a, b, c], _ => exact ⟨a, b, c, rfl⟩
theorem wf64 {n : Int} (h : (Lit.int .i64 n).wf = true) : ov.B64 n := by
  exact bounds_i64 h
section
variable {H : Type} {enc : TypeId × Value → H} {W : World} {base : Nat} {spare : Nat → Bool} {held : Bool}
set_option maxRecDepth 100000 in
theorem val_trod {fuel : Nat} {cs : List Value} {x : DataW H × List MemPlace} (h : DataW.trod enc Tryz.prog W base spare held fuel 31 cs = some x) :
    ∃ (k n : Int) (s : ByteArray), cs = [.int .i64 k, .int .i64 n, .string s] ∧ ov.B64 n := by
  obtain ⟨y0, y1, y2, n, hx, hl, h0, h1, h2⟩ := Go.Deep.trod_struct3 Tryz.underlying31 h
  obtain ⟨a0, a1, a2, rfl⟩ := list3 (hl.trans vcof31)
  simp only [vcof3, vcof9, List.drop_zero, List.drop_succ_cons, List.take_succ_cons, List.take_zero] at h0 h1 h2
  obtain ⟨k, e0, -, -⟩ := DataW.trod_int Tryz.underlying3 h0
  obtain ⟨m, e1, -, hw⟩ := DataW.trod_int Tryz.underlying3 h1
  obtain ⟨s, e2, -, -⟩ := DataW.trod_string Tryz.underlying9 h2
  simp at e0 e1 e2
  subst e0 e1 e2
  exact ⟨k, m, s, rfl, wf64 hw⟩
set_option maxRecDepth 100000 in
theorem open_vals {r0 : Reach} {b0 : Nat} {v : Value} {d : DataW H} {q : List MemPlace} (hv : Value.okWide Tryz.prog W r0 b0 46 v) (h : DataW.Trod enc Tryz.prog W 0 spare held 46 v d q) :
    ∃ (p : Option Addr) (len cap : Nat) (k m : Nat → Int) (z : Nat → ByteArray), v = .slice p len cap ∧ len ≤ 9223372036854775807 ∧ VM W p len k m z ∧ ∀ i, i < len → ov.B64 (m i) := by
  obtain ⟨p, len, cap, rfl⟩ := okWide_slice Tryz.underlying46 hv
  obtain ⟨fuel, hf⟩ := h
  rcases Go.Deep.open_slice Tryz.underlying46 hf with ⟨e, -⟩ | ⟨a, len', cap', m, n, D, Pl, e, -, hlc, hcm, hm, -, hel⟩
  · simp [Value.cells] at e
    obtain ⟨rfl, rfl, rfl⟩ := e
    exact ⟨none, 0, 0, fun _ => 0, fun _ => 0, fun _ => nul, rfl, by omega, .inl rfl, fun i hi => absurd hi (Nat.not_lt_zero _)⟩
  simp [Value.cells] at e
  obtain ⟨rfl, rfl, rfl⟩ := e
  have hmax : maxLen = 9223372036854775807 := rfl
  have hle : len ≤ m := by rw [hm]; split <;> omega
  rw [vcof31] at hel
  obtain ⟨F, hF⟩ := Go.Deep.choose_lt (α := Int × Int × ByteArray) (n := len) (p := fun i y => W.cells? 0 (a.add (i * 3)) 3 = some [.int .i64 y.1, .int .i64 y.2.1, .string y.2.2] ∧ ov.B64 y.2.1) (fun i hi => by
    obtain ⟨cs', g1, g2⟩ := hel i (by omega)
    obtain ⟨k', n2, s', rfl, hw⟩ := val_trod g2
    exact ⟨(k', n2, s'), g1, hw⟩)
  refine ⟨some a, len, cap, fun i => (F i).1, fun i => (F i).2.1, fun i => (F i).2.2, rfl, by omega, ?_, fun i hi => (hF i hi).2⟩
  by_cases h0 : len = 0
  · exact .inl h0
  right
  have hc0 : ∀ i, i < len → ∀ j, j < 3 → W.cell? (a.add (i * 3 + j)) = ([.int .i64 (F i).1, .int .i64 (F i).2.1, .string (F i).2.2] : List Value)[j]? := fun i hi j hj => by
    have := (World.cells?_some (hF i hi).1).2.2 j hj
    rw [Go.Deep.add_add] at this
    exact this
  have hsp : W.cell? a = some (.int .i64 (F 0).1) := by
    have := hc0 0 (by omega) 0 (by omega)
    simpa [Addr.add] using this
  have hspot := World.cell?_spot hsp
  obtain ⟨g, o, sp⟩ := a
  simp only at hspot
  subst hspot
  refine ⟨g, o, rfl, ?_, fun i hi => ?_⟩
  · unfold World.cell? at hsp
    rcases Nat.lt_or_ge g W.heap.size with h | h
    · exact h
    · rw [Array.getElem?_eq_none h] at hsp
      simp at hsp
  · have q0 := hc0 i hi 0 (by omega)
    have q1 := hc0 i hi 1 (by omega)
    have q2 := hc0 i hi 2 (by omega)
    rw [add_plain] at q0 q1 q2
    exact ⟨q0, by rw [Nat.add_assoc]; exact q1, by rw [Nat.add_assoc]; exact q2⟩
end
end Go.Proofs.YtoaejcppfmjhdaaGreatDoor.ev
namespace Go.Proofs.YtoaejcppfmjhdaaGreatDoor.sums
open Go.ChangeShapes Go.WideShapes Go.ChangeAt Go.RowKit Go.Joins
open Go.ChangeMaps (open_string shut_string)
theorem door_met (os : Os) (args : Array Value) : laidMetH Tryz.prog Rows.evalSumsRow.laid ((World.laidAll Tryz.prog os Rows.evalSumsRow.laid).forCall (fun _ _ => 0) ⟨#[], args, []⟩).memory := by
  rw [MakeChecks.laidMetH_plain _ _ _ (by kernel_rfl)]
  exact laidMet_laidAll _ (by kernel_rfl) (by kernel_rfl)
theorem max_of {W : World} (h : W.ShapedOpen Tryz.prog) : ∃ m, W.cell? ⟨2, 0, none⟩ = some (.int .i64 m) :=
  cell_of_shapedOpen_int (P := Tryz.prog) (g := 2) (t := 3) (zero := #[.int .i64 0]) h (of_decide_eq_true (by kernel_rfl)) (by kernel_rfl) rfl (by kernel_rfl) (by kernel_rfl) Tryz.underlying3
theorem size_of {W : World} (h : W.ShapedOpen Tryz.prog) : 9 < W.heap.size := by
  obtain ⟨o, o0, h1, -, -⟩ := h.2 10 (of_decide_eq_true (by kernel_rfl)) (of_decide_eq_true (by kernel_rfl))
  have := (Array.getElem?_eq_some_iff.1 h1).1
  omega
theorem laid_out : laidOutB Tryz.prog = true := by kernel_rfl
theorem maps_rowed : mapsRowed Tryz.prog = true := by kernel_rfl
theorem slices_full : ((List.range Tryz.prog.types.size).all fun t => match Tryz.prog.underlying t with | some (.slice e) => decide (0 < Tryz.prog.cellsOf e) | _ => true) = true := by kernel_rfl
theorem params_in : ∀ t ∈ Tryz.f4.params.toList, t < Tryz.prog.types.size := by
  have h : (Tryz.f4.params.toList.all fun t => decide (t < Tryz.prog.types.size)) = true := by kernel_rfl
  exact fun t ht => of_decide_eq_true (List.all_eq_true.1 h t ht)
theorem trodAll_two {H : Type} {enc : TypeId × Value → H} {P : Program} {w : World} {base : Nat} {spare : Nat → Bool} {held : Bool} {t0 t1 : TypeId} {args : Array Value} {ds : List (DataW H)} {ps : List MemPlace} (h : DataW.TrodAll enc P w base spare held [t0, t1] args.toList ds ps) :
    ∃ v0 v1 d0 d1 p0 p1, args = #[v0, v1] ∧ ds = [d0, d1] ∧ DataW.Trod enc P w base spare held t0 v0 d0 p0 ∧ DataW.Trod enc P w base spare held t1 v1 d1 p1 := by
  obtain ⟨v0, vs, d0, ds0, p0, q0, hargs, rfl, -, h0, r0⟩ := trodAll_cons h
  obtain ⟨v1, vs1, d1, ds1, p1, q1, rfl, rfl, -, h1, r1⟩ := trodAll_cons r0
  obtain ⟨rfl, rfl, -⟩ := trodAll_nil r1
  exact ⟨v0, v1, d0, d1, p0, p1, by cases args; simp_all, rfl, h0, h1⟩
set_option maxRecDepth 100000 in
theorem lifted (os : Os) (started : os.Started) (H : Type) (enc : TypeId × Value → H) :
    ReturnsInHanded {} Tryz.checked os 4 .any (fun w args => (Rows.evalSumsSpec.pre enc Tryz.prog Tryz.f4 [] false w args ∧ laidMetH Tryz.prog Rows.evalSumsRow.laid w) ∧ sizedMet enc Tryz.prog Tryz.f4 (OpenSpec.ofChange Rows.evalSumsSpec) false w args)
      (Rows.evalSumsSpec.post enc Tryz.prog Tryz.f4 false true false false) := by
  refine out.returnsInHanded_shaped (C := Tryz.checked) (X := fun w _ => laidMetH Tryz.prog Rows.evalSumsRow.laid w) (fun _ _ _ hh h => h.of_heap hh) own started (by kernel_rfl) Tryz.func4
    (ChangeSpec.witness_shaped (enc := enc) (C := Tryz.checked) (os := os) (X := fun w _ => laidMetH Tryz.prog Rows.evalSumsRow.laid w) false (World.laidAll Tryz.prog os Rows.evalSumsRow.laid) #[.slice none 0 0, .int .i64 0] 8 (World.laidAll_os _ _ _) (World.shaped_of_ZipB (by kernel_rfl) (by kernel_rfl)) (by kernel_rfl) (by kernel_rfl) (by kernel_rfl) (door_met os _)) ?_
  intro W base args ds gs before hval0 hW _ _ hL hsh _
  have hval : ∀ (j : Nat) t v, Tryz.f4.params[j]? = some t → args[j]? = some v → Value.okWide Tryz.prog W .any base t v := hval0
  have hW' := hW
  obtain ⟨p, q, hA0, hV, rfl, hfz, hnd⟩ := hW
  have hAft : ∀ W', Below W.heap.size W W' → DataW.TrodAll enc Tryz.prog W' 0 (fun b => decide (b < W.heap.size)) true Tryz.f4.params.toList args.toList ds p := fun W' hb => out.trodAll_after laid_out maps_rowed slices_full params_in hA0 hb
  have hA : DataW.TrodAll enc Tryz.prog W 0 (fun _ => true) true Tryz.f4.params.toList args.toList ds p := hA0
  rw [Tryz.params4] at hA hval
  obtain ⟨v0, v1, d0, d1, p0, p1, rfl, rfl, h0, h1⟩ := trodAll_two hA
  obtain ⟨rfl, rfl⟩ := trodVars_none hV
  obtain ⟨p, len, cap, k, m, z, rfl, hlen, hvm, hm⟩ := ev.open_vals (hval 0 46 v0 rfl rfl) h0
  obtain ⟨n, rfl, rfl, rfl, -⟩ := open_int Tryz.underlying3 (hval 1 3 v1 rfl rfl) h1
  clear hA0 hval0
  simp only [List.append_nil] at hW'
  have hE : fm.EnvW W := ⟨cuts_env (size_of hsh) hL, max_of hsh⟩
  have key : Calls Tryz.prog 4 #[.slice p len cap, .int .i64 n] W fun e w' => e = .returned (.bool true) ∧ Below W.heap.size W w' := su.sums_any p len cap hlen k m z n hm W hE hvm
  refine key.mono fun e W' ⟨he, hg⟩ => ?_
  subst he
  exact ⟨_, rfl, _, _, _, [], _, [], hW', trodAll_mk1 (shut_bool Tryz.underlying4 _), hAft W' hg, rfl, hg.frame _, fun h => by cases h⟩
theorem row_holds : Rows.EvalSumsSaid :=
  OpenClaim.holds_of_wide 4 Tryz.f4 rfl rfl rfl rfl rfl rfl rfl ⟨rfl, rfl, rfl, rfl, rfl⟩ rfl rfl rfl rfl rfl (by kernel_rfl) Tryz.func4 (by kernel_rfl)
    (of_decide_eq_true (by kernel_rfl)) (by unfold Func.isWrapper; first | (rw [if_pos (by decide +kernel)]; kernel_rfl) | (rw [if_neg (by decide +kernel)]; exact ⟨rfl, rfl⟩))
    (fun os started H enc _ => lifted os started H enc)
theorem card_holds : Rows.EvalSumsCardSaid :=
  Claim7.holds_tied_plain_at .later [] [.data, .data, .data, .data, .sentinel, .sentinel, .data, .data, .pinned] true Rows.evalSumsCard.stood.harness true
    row_holds (fun _ h => by cases h) (by kernel_rfl) (fun _ h => by cases h) evalSums_row_tie rfl ⟨rfl, rfl⟩ (by kernel_rfl) rfl
    (fun f fn hf hfn => by
      obtain rfl : f = 4 := Option.some.inj ((show Tryz.prog.funcNamed "sccsettle/scclaw6.EvalSums" = some 4 by kernel_rfl).symm.trans hf) |>.symm
      obtain rfl : fn = Tryz.f4 := (Option.some.inj (Tryz.func4.symm.trans hfn)).symm
      exact ⟨by kernel_rfl, fun j t ht => by
        rw [Tryz.params4] at ht
        have hm : t ∈ [46, 3] := by simpa using Array.mem_of_getElem? ht
        have hall : ([46, 3].all fun u => !Tryz.prog.wantsStandIn u) = true := by kernel_rfl
        exact (show Tryz.prog.wantsStandIn t = false by simpa using List.all_eq_true.1 hall t hm)⟩)
    (by kernel_rfl)
#print axioms card_holds
end Go.Proofs.YtoaejcppfmjhdaaGreatDoor.sums
