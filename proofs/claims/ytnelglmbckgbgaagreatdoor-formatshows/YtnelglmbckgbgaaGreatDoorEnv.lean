
/- What the listed package variables read as gives what the walks ask of them. Nothing is walked here. -/
import Derived.Test.YtnelglmbckgbgaaGreatDoorConv
import Derived.Test.YtnelglmbckgbgaaGreatDoorShape
import Derived.Test.YtnelglmbckgbgaaGreatDoorAs
import Derived.Stop.LaidErr
import Derived.Lib.LaidTab
import Derived.MakeChecks
import Derived.LaidSub
import Derived.LaidHandle
import Derived.Lay
namespace Go.Proofs.YtnelglmbckgbgaaGreatDoor
open Go.ChangeShapes Go.WideShapes Go.ChangeAt Go.RowKit Go.Joins
theorem gPowT : (Tryz.prog.globals[3]?).map (·.type) = some 144 := by kernel_rfl
theorem gBadT : (Tryz.prog.globals[1]?).map (·.type) = some 90 := by kernel_rfl
theorem cells9 : Tryz.prog.cellsOf 9 = 1 := by kernel_rfl
theorem cells105 : Tryz.prog.cellsOf 144 = 20 := by kernel_rfl
theorem cells51 : Tryz.prog.cellsOf 90 = 6 := by kernel_rfl
theorem bytes_eq {s t : ByteArray} (h : s.data.toList = t.data.toList) : s = t := by
  obtain ⟨⟨l⟩⟩ := s
  obtain ⟨⟨m⟩⟩ := t
  simp at h
  rw [h]
theorem six {α : Type} {l : List α} (h : l.length = 6) : ∃ a b c d e f, l = [a, b, c, d, e, f] := by
  match l, h with
  | [a, b, c, d, e, f], _ => exact ⟨a, b, c, d, e, f, rfl⟩
set_option maxRecDepth 100000 in
theorem bads_of {W : World} {r : List (String × DataW Unit)} (h : laidMet Tryz.prog (("sccsettle/value.badTexts", Rows.laid_sccsettle_value_badTexts) :: r) W) :
    W.var? Tryz.prog "sccsettle/value.badTexts" = some #[.string bt0, .string bt1, .string bt2, .string bt3, .string bt4, .string bt5] := by
  obtain ⟨ps, ⟨g, t, c, fuel, p, q, hg, ht, hv, hd, _, _⟩, _, _⟩ := h
  obtain rfl := Option.some.inj (gBad.symm.trans hg)
  obtain rfl := Option.some.inj (gBadT.symm.trans ht)
  obtain ⟨xs, m, rfl, hx, hlen, hn, hel⟩ := DataW.trod_array Tryz.underlying90 hd
  rw [cells51] at hlen
  rw [cells9] at hel
  obtain ⟨l⟩ := c
  simp only [Prod.mk.injEq, Rows.laid_sccsettle_value_badTexts, DataW.agg.injEq] at hx
  obtain ⟨x0, x1, x2, x3, x4, x5, rfl⟩ := six hn
  obtain ⟨c0, c1, c2, c3, c4, c5, rfl⟩ := six (show l.length = 6 from hlen)
  obtain ⟨s0, e0, f0, _⟩ := DataW.trod_string Tryz.underlying9 (show DataW.trod _ Tryz.prog W 0 _ _ m 9 _ = some x0 from hel 0 (by decide))
  obtain ⟨s1, e1, f1, _⟩ := DataW.trod_string Tryz.underlying9 (show DataW.trod _ Tryz.prog W 0 _ _ m 9 _ = some x1 from hel 1 (by decide))
  obtain ⟨s2, e2, f2, _⟩ := DataW.trod_string Tryz.underlying9 (show DataW.trod _ Tryz.prog W 0 _ _ m 9 _ = some x2 from hel 2 (by decide))
  obtain ⟨s3, e3, f3, _⟩ := DataW.trod_string Tryz.underlying9 (show DataW.trod _ Tryz.prog W 0 _ _ m 9 _ = some x3 from hel 3 (by decide))
  obtain ⟨s4, e4, f4, _⟩ := DataW.trod_string Tryz.underlying9 (show DataW.trod _ Tryz.prog W 0 _ _ m 9 _ = some x4 from hel 4 (by decide))
  obtain ⟨s5, e5, f5, _⟩ := DataW.trod_string Tryz.underlying9 (show DataW.trod _ Tryz.prog W 0 _ _ m 9 _ = some x5 from hel 5 (by decide))
  simp at e0 e1 e2 e3 e4 e5
  subst e0 e1 e2 e3 e4 e5
  simp only [List.map_cons, List.map_nil, f0, f1, f2, f3, f4, f5, List.cons.injEq, DataW.lit.injEq, Lit.string.injEq, and_true] at hx
  obtain ⟨⟨g0, g1, g2, g3, g4, g5⟩, _⟩ := hx
  rw [hv, bytes_eq (s := s0) (t := bt0) g0.symm, bytes_eq (s := s1) (t := bt1) g1.symm, bytes_eq (s := s2) (t := bt2) g2.symm, bytes_eq (s := s3) (t := bt3) g3.symm, bytes_eq (s := s4) (t := bt4) g4.symm, bytes_eq (s := s5) (t := bt5) g5.symm]
theorem size_of_var {W : World} {n : String} {g : Nat} {c : Array Value} (hg : Tryz.prog.globalNamed n = some g) (h : W.var? Tryz.prog n = some c) : g < W.heap.size := by
  unfold World.var? at h
  rw [hg] at h
  simp only [Option.bind_some] at h
  by_cases hh : g < W.heap.size
  · exact hh
  · rw [Array.getElem?_eq_none (by omega)] at h
    cases h
theorem gErr : Tryz.prog.globalNamed "errors.errorType" = some 0 := by kernel_rfl
theorem rtErr : (Tryz.prog.cutTypes.find? (·.1 == "internal/reflectlite.rtype")).map (·.2) = some 105 := by kernel_rfl
theorem oneErr : ((List.range 183).filter fun t => Tryz.prog.rowNamed t [101, 114, 114, 111, 114]) = [32] := by kernel_rfl
theorem sizeErr : Tryz.prog.types.size = 183 := by kernel_rfl
theorem err_of_handle {W : World} (h : handlesMet Tryz.prog [("errors.errorType", Rows.laid_errors_errorType)] W) : ErrTy W := by
  obtain ⟨name, u, ty, e1, e2, e3, e4, e5⟩ := h _ (List.mem_singleton.2 rfl)
  have en : name = [101, 114, 114, 111, 114] := (Option.some.inj e1).symm
  subst en
  obtain rfl := Option.some.inj (rtErr.symm.trans e2)
  have hm : ty ∈ (List.range 183).filter fun t => Tryz.prog.rowNamed t [101, 114, 114, 111, 114] := List.mem_filter.2 ⟨List.mem_range.2 (by rw [← sizeErr]; exact e3), e4⟩
  rw [oneErr] at hm
  obtain rfl := List.mem_singleton.1 hm
  have hh : typeHandle Tryz.prog 32 = .pointer (some ⟨8, 32, none⟩) := by kernel_rfl
  rw [hh] at e5
  exact ⟨size_of_var gErr e5, by simpa using World.var?_cell gErr e5 0⟩
/-- The listed variables but for the handle. -/
def plainL : List (String × DataW Unit) := [("math/bits.deBruijn32tab", Rows.laid_math_bits_deBruijn32tab), ("math/bits.deBruijn64tab", Rows.laid_math_bits_deBruijn64tab), ("internal/strconv.uint64pow10", Rows.laid_internal_strconv_uint64pow10), ("unicode/utf8.acceptRanges", Rows.laid_unicode_utf8_acceptRanges), ("sccsettle/value.badTexts", Rows.laid_sccsettle_value_badTexts), ("unicode/utf8.first", Rows.laid_unicode_utf8_first)]
theorem parts_of {W : World} (h : laidMetH Tryz.prog Rows.formatShowsRow.laid W) : laidMet Tryz.prog plainL W ∧ handlesMet Tryz.prog [("errors.errorType", Rows.laid_errors_errorType)] W := h
set_option maxRecDepth 100000 in
theorem env_of_laid {W : World} (hz : 7 < W.heap.size) (h0 : laidMetH Tryz.prog Rows.formatShowsRow.laid W) : Env W := by
  have h := (parts_of h0).1
  have ht := Lib.tabIs_of_head (zs := Lib.pow10Tab) (k := .u64) gPow gPowT Tryz.underlying144 Tryz.underlying67 (by kernel_rfl) cells105 (show laidMet Tryz.prog (("internal/strconv.uint64pow10", Lib.tabData .u64 Lib.pow10Tab) :: _) W from h.tail.tail)
  exact ⟨hz, ht, bads_of h.tail.tail.tail.tail⟩
/-- A start that meets the condition: the handle in its variable, and the rest laid beside it. -/
noncomputable def W0 (os : Os) : World := { World.holding Tryz.prog os ⟨#[], #[], []⟩ with heap := (World.holding Tryz.prog os ⟨#[], #[], []⟩).heap.setIfInBounds 0 (.cells #[.iface 105 (.agg #[.pointer (some ⟨8, 32, none⟩)])] 82 (0, 0)) }
noncomputable def WL (os : Os) : World := (W0 os).layVars Tryz.prog plainL
theorem WL_os (os : Os) : (WL os).os = os := World.layVars_os _ _ _
theorem met_plain (os : Os) : laidMet Tryz.prog plainL (WL os) := by
  have e1 : (plainL.filter fun x => (plainL.map (·.1)).contains x.1) = plainL := List.filter_eq_self.2 fun x hx => List.contains_iff_mem.2 (List.mem_map.2 ⟨x, hx, rfl⟩)
  have e2 : (plainL.filter fun x => !(plainL.map (·.1)).contains x.1) = [] := List.filter_eq_nil_iff.2 fun x hx => by rw [List.contains_iff_mem.2 (List.mem_map.2 ⟨x, hx, rfl⟩)]; simp
  exact laidMet_layVars (w0 := W0 os) (plainL.map (·.1)) [] (by rw [e1]; rfl) (by rw [e1]; kernel_rfl) (by rw [e1]; kernel_rfl) (by rw [e2]; exact LaidIn.none)
theorem door_met (os : Os) (args : Array Value) : laidMetH Tryz.prog Rows.formatShowsRow.laid ((WL os).forCall (fun _ _ => 0) ⟨#[], args, []⟩).memory := by
  refine laidMetH_of_parts ?_ (by kernel_rfl)
  have h : laidMet Tryz.prog plainL ((WL os).forCall (fun _ _ => 0) ⟨#[], args, []⟩).memory := (met_plain os).of_heap (by simp [World.memory, World.forCall, Input.heap])
  exact h
end Go.Proofs.YtnelglmbckgbgaaGreatDoor
