/- What the list of laid variables gives; a world that meets it. -/
import Derived.Test.YtgmimakoliifdaaGreatDoorY3
import Derived.Test.YtgmimakoliifdaaGreatDoorO
import Derived.Test.YtgmimakoliifdaaGreatDoorCards
import Derived.Test.YtgmimakoliifdaaGreatDoorTie
import Derived.Deep.DeepHandedRow
import Derived.Lib.LaidTab
import Derived.Lib.SmallJoins
import Derived.LaidHandle
import Derived.LaidLaws
import Derived.Stop.LaidErr
import Derived.SevenTiedAt
namespace Go.Proofs.YtgmimakoliifdaaGreatDoor
open Go.ChangeShapes Go.WideShapes Go.ChangeAt Go.RowKit Go.Deep
set_option linter.unusedVariables false

theorem Tryz.gPow : Tryz.prog.globalNamed "internal/strconv.uint64pow10" = some 2 := by kernel_rfl
theorem Tryz.gPowType : (Tryz.prog.globals[2]?).map (·.type) = some 224 := by kernel_rfl
theorem Tryz.cellsPow : Tryz.prog.cellsOf 224 = 20 := by kernel_rfl
theorem Tryz.cellsU64 : Tryz.prog.cellsOf 217 = 1 := by kernel_rfl
theorem Tryz.gBad : Tryz.prog.globalNamed "gauge/gauge.Bad" = some 1 := by kernel_rfl
theorem Tryz.gBadType : (Tryz.prog.globals[1]?).map (·.type) = some 86 := by kernel_rfl
theorem Tryz.gErr : Tryz.prog.globalNamed "errors.errorType" = some 0 := by kernel_rfl
theorem Tryz.gRt : (Tryz.prog.cutTypes.find? (·.1 == "internal/reflectlite.rtype")).map (·.2) = some 169 := by kernel_rfl
theorem Tryz.nTypes : Tryz.prog.types.size = 262 := by kernel_rfl
theorem Tryz.oneError : ((List.range 262).filter fun t => Tryz.prog.rowNamed t [101, 114, 114, 111, 114]) = [86] := by kernel_rfl
theorem Tryz.star : "*" ++ "errors.errorString" = "*errors.errorString" := by decide
theorem Tryz.rowES (u : TypeId) (h : Tryz.prog.typeName? 3 u = some "*errors.errorString") : u = 231 :=
  typeName_ptr_named (nm := "errors.errorString") (by rw [Tryz.star]; kernel_rfl) (by kernel_rfl) (by decide) u (by rw [Tryz.star]; exact h)
theorem Tryz.cellsES : Tryz.prog.cellsOf 251 = 1 := by kernel_rfl
theorem Tryz.cellsStr : Tryz.prog.cellsOf 9 = 1 := by kernel_rfl

theorem tab_of_laid {W : World} (h : laidMetH Tryz.prog Rows.runsRow.laid W) : Tab W := by
  have h' : laidMet Tryz.prog [("math/bits.deBruijn32tab", Rows.laid_math_bits_deBruijn32tab), ("math/bits.deBruijn64tab", Rows.laid_math_bits_deBruijn64tab), ("internal/strconv.uint64pow10", Lib.tabData .u64 Lib.pow10Tab), ("gauge/gauge.Bad", Rows.laid_gauge_gauge_Bad)] W ∧ handlesMet Tryz.prog [("errors.errorType", Rows.laid_errors_errorType)] W := h
  exact Lib.tabIs_of_head Tryz.gPow Tryz.gPowType Tryz.underlying224 Tryz.underlying217 Tryz.cellsU64 Tryz.cellsPow h'.1.tail.tail

theorem err_of_laid {W : World} (h : laidMetH Tryz.prog Rows.runsRow.laid W) : ErrT W := by
  have h' : laidMet Tryz.prog [("math/bits.deBruijn32tab", Rows.laid_math_bits_deBruijn32tab), ("math/bits.deBruijn64tab", Rows.laid_math_bits_deBruijn64tab), ("internal/strconv.uint64pow10", Rows.laid_internal_strconv_uint64pow10), ("gauge/gauge.Bad", Rows.laid_gauge_gauge_Bad)] W ∧ handlesMet Tryz.prog [("errors.errorType", Rows.laid_errors_errorType)] W := h
  obtain ⟨name, u, ty, e1, e2, e3, e4, e5⟩ := h'.2 _ (List.mem_singleton.2 rfl)
  have en : name = [101, 114, 114, 111, 114] := (Option.some.inj e1).symm
  subst en
  obtain rfl := Option.some.inj (Tryz.gRt.symm.trans e2)
  have hm : ty ∈ (List.range 262).filter fun t => Tryz.prog.rowNamed t [101, 114, 114, 111, 114] := List.mem_filter.2 ⟨List.mem_range.2 (by rw [← Tryz.nTypes]; exact e3), e4⟩
  rw [Tryz.oneError] at hm
  obtain rfl := List.mem_singleton.1 hm
  have hh : typeHandle Tryz.prog 86 = .pointer (some ⟨5, 86, none⟩) := by kernel_rfl
  rw [hh] at e5
  unfold ErrT
  simpa using World.var?_cell Tryz.gErr e5 0

theorem bad_of_laid {W : World} (h : laidMetH Tryz.prog Rows.runsRow.laid W) : ∃ a, W.cell? ⟨1, 0, none⟩ = some (.iface 231 (.pointer (some a))) := by
  have h' : laidMet Tryz.prog [("math/bits.deBruijn32tab", Rows.laid_math_bits_deBruijn32tab), ("math/bits.deBruijn64tab", Rows.laid_math_bits_deBruijn64tab), ("internal/strconv.uint64pow10", Rows.laid_internal_strconv_uint64pow10), ("gauge/gauge.Bad", Rows.laid_gauge_gauge_Bad)] W ∧ handlesMet Tryz.prog [("errors.errorType", Rows.laid_errors_errorType)] W := h
  obtain ⟨a, s, hv, _⟩ := laid_sentinel (tp := 231) (te := 251) (ts := 9) h'.1.tail.tail.tail Tryz.gBad Tryz.gBadType Tryz.underlying86 Tryz.rowES Tryz.underlying231 Tryz.underlying251 rfl rfl Tryz.underlying9 Tryz.cellsES Tryz.cellsStr
  · exact ⟨a, by simpa using World.var?_cell Tryz.gBad hv 0⟩

end Go.Proofs.YtgmimakoliifdaaGreatDoor
