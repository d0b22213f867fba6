/- What the list of laid variables gives; a world that meets it. -/
import Derived.Test.YthbcfepbkkbjiaaDoorY3
import Derived.Test.YthbcfepbkkbjiaaDoorO
import Derived.Test.YthbcfepbkkbjiaaDoorCards
import Derived.Test.YthbcfepbkkbjiaaDoorTie
import Derived.Deep.DeepHandedRow
import Derived.Lib.LaidTab
import Derived.Lib.SmallJoins
import Derived.LaidHandle
import Derived.LaidLaws
import Derived.Stop.LaidErr
import Derived.SevenTiedAt
namespace Go.Proofs.YthbcfepbkkbjiaaDoor
open Go.ChangeShapes Go.WideShapes Go.ChangeAt Go.RowKit Go.Deep
set_option linter.unusedVariables false

theorem Tryd.gPow : Tryd.prog.globalNamed "internal/strconv.uint64pow10" = some 2 := by kernel_rfl
theorem Tryd.gPowType : (Tryd.prog.globals[2]?).map (·.type) = some 131 := by kernel_rfl
theorem Tryd.cellsPow : Tryd.prog.cellsOf 131 = 20 := by kernel_rfl
theorem Tryd.cellsU64 : Tryd.prog.cellsOf 124 = 1 := by kernel_rfl
theorem Tryd.gBad : Tryd.prog.globalNamed "gauge/gauge.Bad" = some 0 := by kernel_rfl
theorem Tryd.gBadType : (Tryd.prog.globals[0]?).map (·.type) = some 34 := by kernel_rfl
theorem Tryd.gErr : Tryd.prog.globalNamed "errors.errorType" = some 1 := by kernel_rfl
theorem Tryd.gRt : (Tryd.prog.cutTypes.find? (·.1 == "internal/reflectlite.rtype")).map (·.2) = some 85 := by kernel_rfl
theorem Tryd.nTypes : Tryd.prog.types.size = 170 := by kernel_rfl
theorem Tryd.oneError : ((List.range 170).filter fun t => Tryd.prog.rowNamed t [101, 114, 114, 111, 114]) = [34] := by kernel_rfl
theorem Tryd.star : "*" ++ "errors.errorString" = "*errors.errorString" := by decide
theorem Tryd.rowES (u : TypeId) (h : Tryd.prog.typeName? 3 u = some "*errors.errorString") : u = 139 :=
  typeName_ptr_named (nm := "errors.errorString") (by rw [Tryd.star]; kernel_rfl) (by kernel_rfl) (by decide) u (by rw [Tryd.star]; exact h)
theorem Tryd.cellsES : Tryd.prog.cellsOf 159 = 1 := by kernel_rfl
theorem Tryd.cellsStr : Tryd.prog.cellsOf 9 = 1 := by kernel_rfl

theorem tab_of_laid {W : World} (h : laidMetH Tryd.prog Rows.checksRow.laid W) : Tab W := by
  have h' : laidMet Tryd.prog [("math/bits.deBruijn32tab", Rows.laid_math_bits_deBruijn32tab), ("math/bits.deBruijn64tab", Rows.laid_math_bits_deBruijn64tab), ("internal/strconv.uint64pow10", Lib.tabData .u64 Lib.pow10Tab), ("gauge/gauge.Bad", Rows.laid_gauge_gauge_Bad)] W ∧ handlesMet Tryd.prog [("errors.errorType", Rows.laid_errors_errorType)] W := h
  exact Lib.tabIs_of_head Tryd.gPow Tryd.gPowType Tryd.underlying131 Tryd.underlying124 Tryd.cellsU64 Tryd.cellsPow h'.1.tail.tail

theorem err_of_laid {W : World} (h : laidMetH Tryd.prog Rows.checksRow.laid W) : ErrT W := by
  have h' : laidMet Tryd.prog [("math/bits.deBruijn32tab", Rows.laid_math_bits_deBruijn32tab), ("math/bits.deBruijn64tab", Rows.laid_math_bits_deBruijn64tab), ("internal/strconv.uint64pow10", Rows.laid_internal_strconv_uint64pow10), ("gauge/gauge.Bad", Rows.laid_gauge_gauge_Bad)] W ∧ handlesMet Tryd.prog [("errors.errorType", Rows.laid_errors_errorType)] W := h
  obtain ⟨name, u, ty, e1, e2, e3, e4, e5⟩ := h'.2 _ (List.mem_singleton.2 rfl)
  have en : name = [101, 114, 114, 111, 114] := (Option.some.inj e1).symm
  subst en
  obtain rfl := Option.some.inj (Tryd.gRt.symm.trans e2)
  have hm : ty ∈ (List.range 170).filter fun t => Tryd.prog.rowNamed t [101, 114, 114, 111, 114] := List.mem_filter.2 ⟨List.mem_range.2 (by rw [← Tryd.nTypes]; exact e3), e4⟩
  rw [Tryd.oneError] at hm
  obtain rfl := List.mem_singleton.1 hm
  have hh : typeHandle Tryd.prog 34 = .pointer (some ⟨5, 34, none⟩) := by kernel_rfl
  rw [hh] at e5
  unfold ErrT
  simpa using World.var?_cell Tryd.gErr e5 0

theorem bad_of_laid {W : World} (h : laidMetH Tryd.prog Rows.checksRow.laid W) : ∃ a, W.cell? ⟨0, 0, none⟩ = some (.iface 139 (.pointer (some a))) := by
  have h' : laidMet Tryd.prog [("math/bits.deBruijn32tab", Rows.laid_math_bits_deBruijn32tab), ("math/bits.deBruijn64tab", Rows.laid_math_bits_deBruijn64tab), ("internal/strconv.uint64pow10", Rows.laid_internal_strconv_uint64pow10), ("gauge/gauge.Bad", Rows.laid_gauge_gauge_Bad)] W ∧ handlesMet Tryd.prog [("errors.errorType", Rows.laid_errors_errorType)] W := h
  obtain ⟨a, s, hv, _⟩ := laid_sentinel (tp := 139) (te := 159) (ts := 9) h'.1.tail.tail.tail Tryd.gBad Tryd.gBadType Tryd.underlying34 Tryd.rowES Tryd.underlying139 Tryd.underlying159 rfl rfl Tryd.underlying9 Tryd.cellsES Tryd.cellsStr
  · exact ⟨a, by simpa using World.var?_cell Tryd.gBad hv 0⟩

end Go.Proofs.YthbcfepbkkbjiaaDoor
