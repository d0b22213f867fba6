import Derived.Test.YthbcfepbkkbjiaaGreatDoorCards
import Derived.Test.YthbcfepbkkbjiaaGreatDoorTie
import Derived.Deep.DeepHandedRow
import Derived.Lib.LaidTab
import Derived.Lib.SmallJoins
import Derived.LaidHandle
import Derived.LaidLaws
import Derived.Stop.LaidErr
import Derived.SevenTiedAt
import Derived.Test.YthbcfepbkkbjiaaGreatDoorI7
import Derived.Test.YthbcfepbkkbjiaaGreatDoorIO
namespace Go.Proofs.YthbcfepbkkbjiaaGreatDoor
open Go.ChangeShapes Go.WideShapes Go.ChangeAt Go.RowKit Go.Deep
set_option linter.unusedVariables false
theorem Tryz.gPow : Tryz.prog.globalNamed "internal/strconv.uint64pow10" = some 6 := by kernel_rfl
theorem Tryz.gPowType : (Tryz.prog.globals[6]?).map (·.type) = some 273 := by kernel_rfl
theorem Tryz.cellsPow : Tryz.prog.cellsOf 273 = 20 := by kernel_rfl
theorem Tryz.cellsU64 : Tryz.prog.cellsOf 267 = 1 := by kernel_rfl
theorem Tryz.gBad : Tryz.prog.globalNamed "gauge/gauge.Bad" = some 1 := by kernel_rfl
theorem Tryz.gBadType : (Tryz.prog.globals[1]?).map (·.type) = some 117 := by kernel_rfl
theorem Tryz.gErr : Tryz.prog.globalNamed "errors.errorType" = some 0 := by kernel_rfl
theorem Tryz.gRt : (Tryz.prog.cutTypes.find? (·.1 == "internal/reflectlite.rtype")).map (·.2) = some 214 := by kernel_rfl
theorem Tryz.nTypes : Tryz.prog.types.size = 310 := by kernel_rfl
theorem Tryz.oneError : ((List.range 310).filter fun t => Tryz.prog.rowNamed t [101, 114, 114, 111, 114]) = [117] := by kernel_rfl
theorem Tryz.star : "*" ++ "errors.errorString" = "*errors.errorString" := by decide
theorem Tryz.rowES (u : TypeId) (h : Tryz.prog.typeName? 3 u = some "*errors.errorString") : u = 279 :=
  typeName_ptr_named (nm := "errors.errorString") (by rw [Tryz.star]; kernel_rfl) (by kernel_rfl) (by decide) u (by rw [Tryz.star]; exact h)
theorem Tryz.cellsES : Tryz.prog.cellsOf 299 = 1 := by kernel_rfl
theorem Tryz.cellsStr : Tryz.prog.cellsOf 9 = 1 := by kernel_rfl
theorem tab_of_laid {W : World} (h : laidMetH Tryz.prog Rows.runsRow.laid W) : Tab W := by
  have h' : laidMet Tryz.prog [("math/bits.deBruijn32tab", Rows.laid_math_bits_deBruijn32tab), ("math/bits.deBruijn64tab", Rows.laid_math_bits_deBruijn64tab), ("internal/strconv.uint64pow10", Lib.tabData .u64 Lib.pow10Tab), ("gauge/gauge.Bad", Rows.laid_gauge_gauge_Bad)] W ∧ handlesMet Tryz.prog [("errors.errorType", Rows.laid_errors_errorType)] W := h
  exact Lib.tabIs_of_head Tryz.gPow Tryz.gPowType Tryz.underlying273 Tryz.underlying267 Tryz.cellsU64 Tryz.cellsPow h'.1.tail.tail
theorem err_of_laid {W : World} (h : laidMetH Tryz.prog Rows.runsRow.laid W) : ErrT W := by
  have h' : laidMet Tryz.prog [("math/bits.deBruijn32tab", Rows.laid_math_bits_deBruijn32tab), ("math/bits.deBruijn64tab", Rows.laid_math_bits_deBruijn64tab), ("internal/strconv.uint64pow10", Rows.laid_internal_strconv_uint64pow10), ("gauge/gauge.Bad", Rows.laid_gauge_gauge_Bad)] W ∧ handlesMet Tryz.prog [("errors.errorType", Rows.laid_errors_errorType)] W := h
  obtain ⟨name, u, ty, e1, e2, e3, e4, e5⟩ := h'.2 _ (List.mem_singleton.2 rfl)
  have en : name = [101, 114, 114, 111, 114] := (Option.some.inj e1).symm
  subst en
  obtain rfl := Option.some.inj (Tryz.gRt.symm.trans e2)
  have hm : ty ∈ (List.range 310).filter fun t => Tryz.prog.rowNamed t [101, 114, 114, 111, 114] := List.mem_filter.2 ⟨List.mem_range.2 (by rw [← Tryz.nTypes]; exact e3), e4⟩
  rw [Tryz.oneError] at hm
  obtain rfl := List.mem_singleton.1 hm
  have hh : typeHandle Tryz.prog 117 = .pointer (some ⟨9, 117, none⟩) := by kernel_rfl
  rw [hh] at e5
  unfold ErrT
  simpa using World.var?_cell Tryz.gErr e5 0
theorem bad_of_laid {W : World} (h : laidMetH Tryz.prog Rows.runsRow.laid W) : ∃ a, W.cell? ⟨1, 0, none⟩ = some (.iface 279 (.pointer (some a))) := by
  have h' : laidMet Tryz.prog [("math/bits.deBruijn32tab", Rows.laid_math_bits_deBruijn32tab), ("math/bits.deBruijn64tab", Rows.laid_math_bits_deBruijn64tab), ("internal/strconv.uint64pow10", Rows.laid_internal_strconv_uint64pow10), ("gauge/gauge.Bad", Rows.laid_gauge_gauge_Bad)] W ∧ handlesMet Tryz.prog [("errors.errorType", Rows.laid_errors_errorType)] W := h
  obtain ⟨a, s, hv, _⟩ := laid_sentinel (tp := 279) (te := 299) (ts := 9) h'.1.tail.tail.tail Tryz.gBad Tryz.gBadType Tryz.underlying117 Tryz.rowES Tryz.underlying279 Tryz.underlying299 rfl rfl Tryz.underlying9 Tryz.cellsES Tryz.cellsStr
  · exact ⟨a, by simpa using World.var?_cell Tryz.gBad hv 0⟩
end Go.Proofs.YthbcfepbkkbjiaaGreatDoor
namespace Go.Proofs.YthbcfepbkkbjiaaGreatDoor
open Go.ChangeShapes Go.WideShapes Go.ChangeAt Go.RowKit Go.Deep
set_option linter.unusedVariables false
theorem laid_of {W : World} (h : laidMetH Tryz.prog Rows.runsRow.laid W) : ∃ a, Laid W 279 (.pointer (some a)) := by
  obtain ⟨a, ha⟩ := bad_of_laid h
  exact ⟨a, tab_of_laid h, err_of_laid h, ha⟩
def litCells : DataW Unit → Array Value
  | .agg ds => (ds.filterMap fun
      | .lit (.int k z) => some (Value.int k z)
      | _ => none).toArray
  | _ => #[]
def setObj (cs : Array Value) : Obj → Obj
  | .cells _ t frozen => .cells cs t frozen
  | o => o
def lowOf (P : Program) : Nat := (World.holding P default ⟨#[], #[], []⟩).heap.size
def badBytes : ByteArray := ⟨#[97, 32, 98, 97, 100, 32, 102, 105, 108, 116, 101, 114]⟩
def laidIn (P : Program) (os : Os) : World :=
  let w0 := World.holding P os ⟨#[.cells #[.string badBytes] 299], #[], []⟩
  { w0 with heap := ((((w0.heap.modify 1 (setObj #[.iface 279 (.pointer (some ⟨lowOf P, 0, none⟩))])).modify 0 (setObj #[.iface 214 (.agg #[.pointer (some ⟨9, 117, none⟩)])])).modify 6 (setObj (litCells Rows.laid_internal_strconv_uint64pow10))).modify 7 (setObj (litCells Rows.laid_math_bits_deBruijn32tab))).modify 8 (setObj (litCells Rows.laid_math_bits_deBruijn64tab)) }
theorem laidWorld_met (os : Os) (args : Array Value) : laidMetH Tryz.prog Rows.runsRow.laid ((laidIn Tryz.prog os).forCall (fun _ _ => 0) ⟨#[], args, []⟩).memory :=
  laidMetH_of_parts (laidMet_of_run' 8 (by kernel_rfl) (by kernel_rfl)) (by kernel_rfl)
set_option maxRecDepth 100000 in
theorem made_args {H : Type} {enc : TypeId × Value → H} {W : World} {base : Nat} {v0 : Value} {d0 : DataW H} {p0 : List MemPlace} (hval : Value.okWide Tryz.prog W .any base 24 v0) (h0 : DataW.Trod enc Tryz.prog W 0 (fun _ => true) true 24 v0 d0 p0) (hsz : (DataW.weightsEach Tryz.prog [24] [d0]).all (· ≤ reachBytes) = true) :
    ∃ lo ln lc fit q, v0 = .agg #[.slice lo ln lc, .bool fit] ∧ ln ≤ 4398046511000 ∧ SrcI W lo ln q ∧ ∀ j, j < 4 * ln → Fits64 (q j) := by
  obtain ⟨u0, u1, y0, y1, n, rfl, rfl, _, e0, e1⟩ := Joins.open_agg2 Tryz.underlying24 (by kernel_rfl) (by kernel_rfl) hval h0
  obtain ⟨lo, ln, lc, q, rfl, hl, hi, hls⟩ := open_insns e0
  obtain ⟨fit, hb, _⟩ := DataW.trod_bool Tryz.underlying4 e1
  simp at hb
  subst hb
  refine ⟨lo, ln, lc, fit, q, rfl, ?_, hl, hi⟩
  rcases hls with h | ⟨es, sp, h, hle⟩
  · omega
  · have hw : ∀ k ∈ (DataW.slice es sp).weights Tryz.prog 22, k ≤ reachBytes := fun k hk => by
      have := List.all_eq_true.1 hsz k (by
        simp only [DataW.weightsEach, List.mem_append]
        refine Or.inl ?_
        simp only [DataW.weights, Tryz.underlying24]
        simp only [h]
        simp [DataW.weightsEach, hk])
      simpa using this
    have := hw ((es.length + sp.length) * Tryz.prog.bytesOf 63) (by simp [DataW.weights, Tryz.underlying22])
    rw [Tryz.bytesInsn] at this
    simp only [reachBytes] at this
    omega
theorem sz_head {P : Program} {H : Type} {t : TypeId} {ts : List TypeId} {d : DataW H} {ds : List (DataW H)} {f : Nat → Bool} (h : (DataW.weightsEach P (t :: ts) (d :: ds)).all f = true) : (DataW.weightsEach P [t] [d]).all f = true := by
  simp only [DataW.weightsEach, List.all_append, Bool.and_eq_true] at h ⊢
  exact ⟨h.1, rfl⟩
end Go.Proofs.YthbcfepbkkbjiaaGreatDoor
