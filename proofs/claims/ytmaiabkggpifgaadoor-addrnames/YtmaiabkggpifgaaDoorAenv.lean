/- What the listed variable errors.errorType reads as gives what the walks ask of it. Nothing is walked here. -/
import Derived.Test.YtmaiabkggpifgaaDoorAs
import Derived.Test.YtmaiabkggpifgaaDoorAshape
namespace Go.Proofs.YtmaiabkggpifgaaDoor.adr
open Go.ChangeShapes Go.WideShapes Go.ChangeAt Go.RowKit Go.Joins
theorem gErr : Tryd.prog.globalNamed "errors.errorType" = some 0 := by kernel_rfl
theorem rtErr : (Tryd.prog.cutTypes.find? (·.1 == "internal/reflectlite.rtype")).map (·.2) = some 105 := by kernel_rfl
theorem oneErr : ((List.range 163).filter fun t => Tryd.prog.rowNamed t [101, 114, 114, 111, 114]) = [29] := by kernel_rfl
theorem sizeErr : Tryd.prog.types.size = 163 := by kernel_rfl
theorem size_of_var {W : World} {n : String} {g : Nat} {c : Array Value} (hg : Tryd.prog.globalNamed n = some g) (h : W.var? Tryd.prog n = some c) : g < W.heap.size := by
  unfold World.var? at h
  rw [hg] at h
  simp only [Option.bind_some] at h
  by_cases hh : g < W.heap.size
  · exact hh
  · rw [Array.getElem?_eq_none (by omega)] at h
    cases h
theorem err_of_handle {W : World} (h : handlesMet Tryd.prog [("errors.errorType", Rows.laid_errors_errorType)] W) : ErrTy W := by
  obtain ⟨name, u, ty, e1, e2, e3, e4, e5⟩ := h _ (List.mem_singleton.2 rfl)
  have en : name = [101, 114, 114, 111, 114] := (Option.some.inj e1).symm
  subst en
  obtain rfl := Option.some.inj (rtErr.symm.trans e2)
  have hm : ty ∈ (List.range 163).filter fun t => Tryd.prog.rowNamed t [101, 114, 114, 111, 114] := List.mem_filter.2 ⟨List.mem_range.2 (by rw [← sizeErr]; exact e3), e4⟩
  rw [oneErr] at hm
  obtain rfl := List.mem_singleton.1 hm
  have hh : typeHandle Tryd.prog 29 = .pointer (some ⟨4, 29, none⟩) := by kernel_rfl
  rw [hh] at e5
  exact ⟨size_of_var gErr e5, by simpa using World.var?_cell gErr e5 0⟩
theorem err_shifts {W : World} (h : laidMetH Tryd.prog Rows.addrShiftsRow.laid W) : ErrTy W := err_of_handle (show laidMet Tryd.prog [] W ∧ handlesMet Tryd.prog [("errors.errorType", Rows.laid_errors_errorType)] W from h).2
theorem err_names {W : World} (h : laidMetH Tryd.prog Rows.addrNamesRow.laid W) : ErrTy W := err_of_handle (show laidMet Tryd.prog _ W ∧ handlesMet Tryd.prog [("errors.errorType", Rows.laid_errors_errorType)] W from h).2
end Go.Proofs.YtmaiabkggpifgaaDoor.adr
