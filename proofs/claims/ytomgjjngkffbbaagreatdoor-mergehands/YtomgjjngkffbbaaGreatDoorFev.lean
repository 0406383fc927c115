
/- What the listed package variables read as gives what the walks ask of them. Nothing is walked here. -/
import Derived.Test.YtomgjjngkffbbaaGreatDoorYa
import Derived.Test.YtomgjjngkffbbaaGreatDoorAs
import Derived.Test.YtomgjjngkffbbaaGreatDoorTie
import Derived.Test.YtomgjjngkffbbaaGreatDoorCards
import Derived.ProofKit
import Derived.Shelf.Vars
import Derived.LaidMore
import Derived.LaidSub
import Derived.OpenShut
import Derived.Stop.Joined
import Derived.SevenTiedAt
import Derived.Lib.SmallJoins
import Derived.Stop.LaidErr
import Derived.Lib.LaidTab
namespace Go.Proofs.YtomgjjngkffbbaaGreatDoor
open Go.ChangeShapes Go.WideShapes Go.ChangeAt Go.RowKit Go.Joins
theorem gSynT : (Tryz.prog.globals[7]?).map (·.type) = some 26 := by kernel_rfl
theorem gRanT : (Tryz.prog.globals[8]?).map (·.type) = some 26 := by kernel_rfl
theorem gPowT : (Tryz.prog.globals[6]?).map (·.type) = some 248 := by kernel_rfl
theorem gBadT : (Tryz.prog.globals[5]?).map (·.type) = some 239 := by kernel_rfl
theorem cells112 : Tryz.prog.cellsOf 267 = 1 := by kernel_rfl
theorem cells9 : Tryz.prog.cellsOf 9 = 1 := by kernel_rfl
theorem cells105 : Tryz.prog.cellsOf 248 = 20 := by kernel_rfl
theorem cells51 : Tryz.prog.cellsOf 239 = 6 := by kernel_rfl
theorem star : "*" ++ "errors.errorString" = "*errors.errorString" := by decide
theorem row110 (u : TypeId) (h : Tryz.prog.typeName? 3 u = some "*errors.errorString") : u = 265 :=
  typeName_ptr_named (nm := "errors.errorString") (by rw [star]; kernel_rfl) (by kernel_rfl) (by decide) u (by rw [star]; exact h)
theorem bytes_eq {s t : ByteArray} (h : s.data.toList = t.data.toList) : s = t := by
  obtain ⟨⟨l⟩⟩ := s
  obtain ⟨⟨m⟩⟩ := t
  simp at h
  rw [h]
theorem six {α : Type} {l : List α} (h : l.length = 6) : ∃ a b c d e f, l = [a, b, c, d, e, f] := by
  match l, h with
  | [a, b, c, d, e, f], _ => exact ⟨a, b, c, d, e, f, rfl⟩
theorem own : ownKnob Tryz.prog.godebug = none := by kernel_rfl
theorem gOpsT : (Tryz.prog.globals[4]?).map (·.type) = some 225 := by kernel_rfl
theorem cells3 : Tryz.prog.cellsOf 3 = 1 := by kernel_rfl
theorem cells120 : Tryz.prog.cellsOf 224 = 2 := by kernel_rfl
theorem cells121 : Tryz.prog.cellsOf 225 = 24 := by kernel_rfl
theorem list2 {α : Type} {l : List α} (h : l.length = 2) : ∃ a b, l = [a, b] := by
  match l, h with
  | [a, b], _ => exact ⟨a, b, rfl⟩
theorem list12 {α : Type} {l : List α} (h : l.length = 12) : ∃ x0 x1 x2 x3 x4 x5 x6 x7 x8 x9 x10 x11, l = [x0, x1, x2, x3, x4, x5, x6, x7, x8, x9, x10, x11] := by
  match l, h with
  | [x0, x1, x2, x3, x4, x5, x6, x7, x8, x9, x10, x11], _ => exact ⟨x0, x1, x2, x3, x4, x5, x6, x7, x8, x9, x10, x11, rfl⟩
theorem list24 {α : Type} {l : List α} (h : l.length = 24) : ∃ c0 c1 c2 c3 c4 c5 c6 c7 c8 c9 c10 c11 c12 c13 c14 c15 c16 c17 c18 c19 c20 c21 c22 c23, l = [c0, c1, c2, c3, c4, c5, c6, c7, c8, c9, c10, c11, c12, c13, c14, c15, c16, c17, c18, c19, c20, c21, c22, c23] := by
  match l, h with
  | [c0, c1, c2, c3, c4, c5, c6, c7, c8, c9, c10, c11, c12, c13, c14, c15, c16, c17, c18, c19, c20, c21, c22, c23], _ => exact ⟨c0, c1, c2, c3, c4, c5, c6, c7, c8, c9, c10, c11, c12, c13, c14, c15, c16, c17, c18, c19, c20, c21, c22, c23, rfl⟩
set_option maxRecDepth 100000 in
theorem op_trod {H : Type} {enc : TypeId × Value → H} {W : World} {base : Nat} {spare : Nat → Bool} {held : Bool} {fuel : Nat} {cs : List Value} {x : DataW H × List MemPlace} (h : DataW.trod enc Tryz.prog W base spare held fuel 224 cs = some x) :
    ∃ (s : ByteArray) (n : Int), cs = [.string s, .int .i64 n] ∧ x.1 = .agg [.lit (.string s.data.toList), .lit (.int .i64 n)] := by
  obtain ⟨y0, y1, n, rfl, hl, h0, h1⟩ := trod_struct2 Tryz.underlying224 h
  obtain ⟨a, b, rfl⟩ := list2 (hl.trans cells120)
  simp only [cells3, cells9, List.drop_zero, List.drop_succ_cons, List.take_succ_cons, List.take_zero] at h0 h1
  obtain ⟨s, e0, rfl, w0⟩ := DataW.trod_string Tryz.underlying9 h0
  obtain ⟨r, e1, rfl, w1⟩ := DataW.trod_int Tryz.underlying3 h1
  simp at e0 e1
  subst e0 e1
  exact ⟨s, r, rfl, rfl⟩
set_option maxRecDepth 100000 in
set_option maxHeartbeats 2000000 in
theorem ops_of {W : World} {r : List (String × DataW Unit)} (h : laidMet Tryz.prog (("sccsettle/formula.operators", Rows.laid_sccsettle_formula_operators) :: r) W) :
    W.var? Tryz.prog "sccsettle/formula.operators" = some fm.opTab := by
  obtain ⟨ps, ⟨g, t, c, fuel, p, q, hg, ht, hv, hd, _, _⟩, _, _⟩ := h
  obtain rfl := Option.some.inj (fm.gOps.symm.trans hg)
  obtain rfl := Option.some.inj (gOpsT.symm.trans ht)
  obtain ⟨xs, m, rfl, hx, hlen, hn, hel⟩ := DataW.trod_array Tryz.underlying225 hd
  rw [cells121] at hlen
  rw [cells120] at hel
  obtain ⟨l⟩ := c
  simp only [Prod.mk.injEq, Rows.laid_sccsettle_formula_operators, DataW.agg.injEq] at hx
  obtain ⟨x0, x1, x2, x3, x4, x5, x6, x7, x8, x9, x10, x11, rfl⟩ := list12 hn
  obtain ⟨c0, c1, c2, c3, c4, c5, c6, c7, c8, c9, c10, c11, c12, c13, c14, c15, c16, c17, c18, c19, c20, c21, c22, c23, rfl⟩ := list24 (show l.length = 24 from hlen)
  obtain ⟨s0, n0, e0, f0⟩ := op_trod (show DataW.trod _ Tryz.prog W 0 _ _ m 224 _ = some x0 from hel 0 (by decide))
  obtain ⟨s1, n1, e1, f1⟩ := op_trod (show DataW.trod _ Tryz.prog W 0 _ _ m 224 _ = some x1 from hel 1 (by decide))
  obtain ⟨s2, n2, e2, f2⟩ := op_trod (show DataW.trod _ Tryz.prog W 0 _ _ m 224 _ = some x2 from hel 2 (by decide))
  obtain ⟨s3, n3, e3, f3⟩ := op_trod (show DataW.trod _ Tryz.prog W 0 _ _ m 224 _ = some x3 from hel 3 (by decide))
  obtain ⟨s4, n4, e4, f4⟩ := op_trod (show DataW.trod _ Tryz.prog W 0 _ _ m 224 _ = some x4 from hel 4 (by decide))
  obtain ⟨s5, n5, e5, f5⟩ := op_trod (show DataW.trod _ Tryz.prog W 0 _ _ m 224 _ = some x5 from hel 5 (by decide))
  obtain ⟨s6, n6, e6, f6⟩ := op_trod (show DataW.trod _ Tryz.prog W 0 _ _ m 224 _ = some x6 from hel 6 (by decide))
  obtain ⟨s7, n7, e7, f7⟩ := op_trod (show DataW.trod _ Tryz.prog W 0 _ _ m 224 _ = some x7 from hel 7 (by decide))
  obtain ⟨s8, n8, e8, f8⟩ := op_trod (show DataW.trod _ Tryz.prog W 0 _ _ m 224 _ = some x8 from hel 8 (by decide))
  obtain ⟨s9, n9, e9, f9⟩ := op_trod (show DataW.trod _ Tryz.prog W 0 _ _ m 224 _ = some x9 from hel 9 (by decide))
  obtain ⟨s10, n10, e10, f10⟩ := op_trod (show DataW.trod _ Tryz.prog W 0 _ _ m 224 _ = some x10 from hel 10 (by decide))
  obtain ⟨s11, n11, e11, f11⟩ := op_trod (show DataW.trod _ Tryz.prog W 0 _ _ m 224 _ = some x11 from hel 11 (by decide))
  simp at e0 e1 e2 e3 e4 e5 e6 e7 e8 e9 e10 e11
  obtain ⟨rfl, rfl⟩ := e0
  obtain ⟨rfl, rfl⟩ := e1
  obtain ⟨rfl, rfl⟩ := e2
  obtain ⟨rfl, rfl⟩ := e3
  obtain ⟨rfl, rfl⟩ := e4
  obtain ⟨rfl, rfl⟩ := e5
  obtain ⟨rfl, rfl⟩ := e6
  obtain ⟨rfl, rfl⟩ := e7
  obtain ⟨rfl, rfl⟩ := e8
  obtain ⟨rfl, rfl⟩ := e9
  obtain ⟨rfl, rfl⟩ := e10
  obtain ⟨rfl, rfl⟩ := e11
  simp only [List.map_cons, List.map_nil, f0, f1, f2, f3, f4, f5, f6, f7, f8, f9, f10, f11, List.cons.injEq, DataW.agg.injEq, DataW.lit.injEq, Lit.string.injEq, Lit.int.injEq, and_true, true_and] at hx
  obtain ⟨⟨⟨g0, i0⟩, ⟨g1, i1⟩, ⟨g2, i2⟩, ⟨g3, i3⟩, ⟨g4, i4⟩, ⟨g5, i5⟩, ⟨g6, i6⟩, ⟨g7, i7⟩, ⟨g8, i8⟩, ⟨g9, i9⟩, ⟨g10, i10⟩, ⟨g11, i11⟩⟩, _⟩ := hx
  subst i0
  subst i1
  subst i2
  subst i3
  subst i4
  subst i5
  subst i6
  subst i7
  subst i8
  subst i9
  subst i10
  subst i11
  rw [hv, bytes_eq (s := s0) (t := ⟨#[]⟩) g0.symm, bytes_eq (s := s1) (t := ⟨#[61]⟩) g1.symm, bytes_eq (s := s2) (t := ⟨#[60, 62]⟩) g2.symm, bytes_eq (s := s3) (t := ⟨#[60]⟩) g3.symm, bytes_eq (s := s4) (t := ⟨#[60, 61]⟩) g4.symm, bytes_eq (s := s5) (t := ⟨#[62]⟩) g5.symm, bytes_eq (s := s6) (t := ⟨#[62, 61]⟩) g6.symm, bytes_eq (s := s7) (t := ⟨#[38]⟩) g7.symm, bytes_eq (s := s8) (t := ⟨#[43]⟩) g8.symm, bytes_eq (s := s9) (t := ⟨#[45]⟩) g9.symm, bytes_eq (s := s10) (t := ⟨#[42]⟩) g10.symm, bytes_eq (s := s11) (t := ⟨#[47]⟩) g11.symm]
  rfl
set_option maxRecDepth 100000 in
theorem bads_of {W : World} {r : List (String × DataW Unit)} (h : laidMet Tryz.prog (("sccsettle/value.badTexts", Rows.laid_sccsettle_value_badTexts) :: r) W) :
    W.var? Tryz.prog "sccsettle/value.badTexts" = some #[.string bt0, .string bt1, .string bt2, .string bt3, .string bt4, .string bt5] := by
  obtain ⟨ps, ⟨g, t, c, fuel, p, q, hg, ht, hv, hd, _, _⟩, _, _⟩ := h
  obtain rfl := Option.some.inj (gBad.symm.trans hg)
  obtain rfl := Option.some.inj (gBadT.symm.trans ht)
  obtain ⟨xs, m, rfl, hx, hlen, hn, hel⟩ := DataW.trod_array Tryz.underlying239 hd
  rw [cells51] at hlen
  rw [cells9] at hel
  obtain ⟨l⟩ := c
  simp only [Prod.mk.injEq, Rows.laid_sccsettle_value_badTexts, DataW.agg.injEq] at hx
  obtain ⟨x0, x1, x2, x3, x4, x5, rfl⟩ := six hn
  obtain ⟨c0, c1, c2, c3, c4, c5, rfl⟩ := six (show l.length = 6 from hlen)
  obtain ⟨s0, e0, f0, _⟩ := DataW.trod_string Tryz.underlying9 (show DataW.trod _ Tryz.prog W 0 _ _ m 9 _ = some x0 from hel 0 (by decide))
  obtain ⟨s1, e1, f1, _⟩ := DataW.trod_string Tryz.underlying9 (show DataW.trod _ Tryz.prog W 0 _ _ m 9 _ = some x1 from hel 1 (by decide))
  obtain ⟨s2, e2, f2, _⟩ := DataW.trod_string Tryz.underlying9 (show DataW.trod _ Tryz.prog W 0 _ _ m 9 _ = some x2 from hel 2 (by decide))
  obtain ⟨s3, e3, f3, _⟩ := DataW.trod_string Tryz.underlying9 (show DataW.trod _ Tryz.prog W 0 _ _ m 9 _ = some x3 from hel 3 (by decide))
  obtain ⟨s4, e4, f4, _⟩ := DataW.trod_string Tryz.underlying9 (show DataW.trod _ Tryz.prog W 0 _ _ m 9 _ = some x4 from hel 4 (by decide))
  obtain ⟨s5, e5, f5, _⟩ := DataW.trod_string Tryz.underlying9 (show DataW.trod _ Tryz.prog W 0 _ _ m 9 _ = some x5 from hel 5 (by decide))
  simp at e0 e1 e2 e3 e4 e5
  subst e0 e1 e2 e3 e4 e5
  simp only [List.map_cons, List.map_nil, f0, f1, f2, f3, f4, f5, List.cons.injEq, DataW.lit.injEq, Lit.string.injEq, and_true] at hx
  obtain ⟨⟨g0, g1, g2, g3, g4, g5⟩, _⟩ := hx
  rw [hv, bytes_eq (s := s0) (t := bt0) g0.symm, bytes_eq (s := s1) (t := bt1) g1.symm, bytes_eq (s := s2) (t := bt2) g2.symm, bytes_eq (s := s3) (t := bt3) g3.symm, bytes_eq (s := s4) (t := bt4) g4.symm, bytes_eq (s := s5) (t := bt5) g5.symm]
theorem size_of_var {W : World} {n : String} {g : Nat} {c : Array Value} (hg : Tryz.prog.globalNamed n = some g) (h : W.var? Tryz.prog n = some c) : g < W.heap.size := by
  unfold World.var? at h
  rw [hg] at h
  simp only [Option.bind_some] at h
  by_cases hh : g < W.heap.size
  · exact hh
  · rw [Array.getElem?_eq_none (by omega)] at h
    cases h
set_option maxRecDepth 100000 in
theorem env_of_rest {W : World} (hz : 10 < W.heap.size) (h : laidMet Tryz.prog [("math/bits.deBruijn32tab", Rows.laid_math_bits_deBruijn32tab), ("math/bits.deBruijn64tab", Rows.laid_math_bits_deBruijn64tab), ("internal/strconv.uint64pow10", Rows.laid_internal_strconv_uint64pow10), ("strconv.ErrRange", Rows.laid_strconv_ErrRange), ("strconv.ErrSyntax", Rows.laid_strconv_ErrSyntax), ("sccsettle/value.badTexts", Rows.laid_sccsettle_value_badTexts), ("sccsettle/formula.operators", Rows.laid_sccsettle_formula_operators)] W) : ps.EnvP W := by
  have ht := Lib.tabIs_of_head (zs := Lib.pow10Tab) (k := .u64) gPow gPowT Tryz.underlying248 Tryz.underlying170 (by kernel_rfl) cells105 (show laidMet Tryz.prog (("internal/strconv.uint64pow10", Lib.tabData .u64 Lib.pow10Tab) :: _) W from h.tail.tail)
  obtain ⟨a, s, hr, -, -, -⟩ := laid_sentinel (show laidMet Tryz.prog (("strconv.ErrRange", .iface "*errors.errorString" (.ptr (.agg [.lit (.string _)]))) :: _) W from h.tail.tail.tail) gRan gRanT Tryz.underlying26 row110 Tryz.underlying265 Tryz.underlying267 rfl rfl Tryz.underlying9 cells112 cells9
  obtain ⟨a2, s2, hs, -, -, -⟩ := laid_sentinel (show laidMet Tryz.prog (("strconv.ErrSyntax", .iface "*errors.errorString" (.ptr (.agg [.lit (.string _)]))) :: _) W from h.tail.tail.tail.tail) gSyn gSynT Tryz.underlying26 row110 Tryz.underlying265 Tryz.underlying267 rfl rfl Tryz.underlying9 cells112 cells9
  exact ⟨hz, ht, ⟨_, _, hs⟩, ⟨_, _, hr⟩, bads_of h.tail.tail.tail.tail.tail, ops_of h.tail.tail.tail.tail.tail.tail⟩
theorem gErr : Tryz.prog.globalNamed "errors.errorType" = some 0 := by kernel_rfl
theorem rtErr : (Tryz.prog.cutTypes.find? (·.1 == "internal/reflectlite.rtype")).map (·.2) = some 172 := by kernel_rfl
theorem oneErr : ((List.range 295).filter fun t => Tryz.prog.rowNamed t [101, 114, 114, 111, 114]) = [26] := by kernel_rfl
theorem sizeErr : Tryz.prog.types.size = 295 := by kernel_rfl
theorem err_of_handle {W : World} (h : handlesMet Tryz.prog [("errors.errorType", Rows.laid_errors_errorType)] W) : ErrTy W := by
  obtain ⟨name, u, ty, e1, e2, e3, e4, e5⟩ := h _ (List.mem_singleton.2 rfl)
  have en : name = [101, 114, 114, 111, 114] := (Option.some.inj e1).symm
  subst en
  obtain rfl := Option.some.inj (rtErr.symm.trans e2)
  have hm : ty ∈ (List.range 295).filter fun t => Tryz.prog.rowNamed t [101, 114, 114, 111, 114] := List.mem_filter.2 ⟨List.mem_range.2 (by rw [← sizeErr]; exact e3), e4⟩
  rw [oneErr] at hm
  obtain rfl := List.mem_singleton.1 hm
  have hh : typeHandle Tryz.prog 26 = .pointer (some ⟨11, 26, none⟩) := by kernel_rfl
  rw [hh] at e5
  exact ⟨size_of_var gErr e5, by simpa using World.var?_cell gErr e5 0⟩
theorem diffs_env {W : World} (hz : 10 < W.heap.size) (h : laidMetH Tryz.prog Rows.mergeDiffsRow.laid W) : ps.EnvP W ∧ ErrTy W := by
  have h' : laidMet Tryz.prog [("math/bits.deBruijn32tab", Rows.laid_math_bits_deBruijn32tab), ("math/bits.deBruijn64tab", Rows.laid_math_bits_deBruijn64tab), ("internal/strconv.uint64pow10", Rows.laid_internal_strconv_uint64pow10), ("strconv.ErrRange", Rows.laid_strconv_ErrRange), ("strconv.ErrSyntax", Rows.laid_strconv_ErrSyntax), ("sccsettle/value.badTexts", Rows.laid_sccsettle_value_badTexts), ("sccsettle/formula.operators", Rows.laid_sccsettle_formula_operators)] W ∧ handlesMet Tryz.prog [("errors.errorType", Rows.laid_errors_errorType)] W := h
  exact ⟨env_of_rest hz h'.1, err_of_handle h'.2⟩
theorem three_env {W : World} (hz : 10 < W.heap.size) (h : laidMetH Tryz.prog Rows.mergeThreeRow.laid W) : ps.EnvP W ∧ ErrTy W := by
  have h' : laidMet Tryz.prog [("math/bits.deBruijn32tab", Rows.laid_math_bits_deBruijn32tab), ("math/bits.deBruijn64tab", Rows.laid_math_bits_deBruijn64tab), ("internal/strconv.uint64pow10", Rows.laid_internal_strconv_uint64pow10), ("strconv.ErrRange", Rows.laid_strconv_ErrRange), ("strconv.ErrSyntax", Rows.laid_strconv_ErrSyntax), ("sccsettle/value.badTexts", Rows.laid_sccsettle_value_badTexts), ("sccsettle/formula.operators", Rows.laid_sccsettle_formula_operators)] W ∧ handlesMet Tryz.prog [("errors.errorType", Rows.laid_errors_errorType)] W := h
  exact ⟨env_of_rest hz h'.1, err_of_handle h'.2⟩
theorem back_env {W : World} (hz : 10 < W.heap.size) (h : laidMetH Tryz.prog Rows.mergeBackRow.laid W) : ps.EnvP W := by
  have h1 : laidMet Tryz.prog Rows.mergeBackRow.laid W := h
  exact env_of_rest hz h1
theorem hands_env {W : World} (hz : 10 < W.heap.size) (h : laidMetH Tryz.prog Rows.mergeHandsRow.laid W) : ps.EnvP W := by
  have h1 : laidMet Tryz.prog Rows.mergeHandsRow.laid W := h
  exact env_of_rest hz h1
theorem chain_env {W : World} (hz : 10 < W.heap.size) (h : laidMetH Tryz.prog Rows.mergeChainRow.laid W) : ps.EnvP W := by
  have h1 : laidMet Tryz.prog Rows.mergeChainRow.laid W := h
  exact env_of_rest hz h1
theorem max_of {W : World} (h : W.ShapedOpen Tryz.prog) : ∃ m, W.cell? ⟨1, 0, none⟩ = some (.int .i64 m) :=
  cell_of_shapedOpen_int (P := Tryz.prog) (g := 1) (t := 3) (zero := #[.int .i64 0]) h (of_decide_eq_true (by kernel_rfl)) (by kernel_rfl) rfl (by kernel_rfl) (by kernel_rfl) Tryz.underlying3
theorem size_of {W : World} (h : W.ShapedOpen Tryz.prog) : 10 < W.heap.size := by
  obtain ⟨o, o0, h1, -, -⟩ := h.2 11 (of_decide_eq_true (by kernel_rfl)) (of_decide_eq_true (by kernel_rfl))
  have := (Array.getElem?_eq_some_iff.1 h1).1
  omega
end Go.Proofs.YtomgjjngkffbbaaGreatDoor
