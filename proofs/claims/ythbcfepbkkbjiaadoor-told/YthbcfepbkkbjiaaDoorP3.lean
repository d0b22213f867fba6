/- A world that meets the list of laid variables; the argument of Checks and Told opened. -/
import Derived.Test.YthbcfepbkkbjiaaDoorP2
namespace Go.Proofs.YthbcfepbkkbjiaaDoor
open Go.ChangeShapes Go.WideShapes Go.ChangeAt Go.RowKit Go.Deep
set_option linter.unusedVariables false

theorem laid_of {W : World} (h : laidMetH Tryd.prog Rows.checksRow.laid W) : ∃ a, Laid W 139 (.pointer (some a)) := by
  obtain ⟨a, ha⟩ := bad_of_laid h
  exact ⟨a, tab_of_laid h, err_of_laid h, ha⟩

/-- the cells of a datum of numbers -/
def litCells : DataW Unit → Array Value
  | .agg ds => (ds.filterMap fun
      | .lit (.int k z) => some (Value.int k z)
      | _ => none).toArray
  | _ => #[]

def setObj (cs : Array Value) : Obj → Obj
  | .cells _ t frozen => .cells cs t frozen
  | o => o

def lowOf (P : Program) : Nat := (World.holding P default ⟨#[], #[], []⟩).heap.size

def badBytes : ByteArray := ⟨#[97, 32, 98, 97, 100, 32, 102, 105, 108, 116, 101, 114]⟩

/-- a world in which each variable lies as its text lays it -/
def laidIn (P : Program) (os : Os) : World :=
  let w0 := World.holding P os ⟨#[.cells #[.string badBytes] 159], #[], []⟩
  { w0 with heap := ((((w0.heap.modify 0 (setObj #[.iface 139 (.pointer (some ⟨lowOf P, 0, none⟩))])).modify 1 (setObj #[.iface 85 (.agg #[.pointer (some ⟨5, 34, none⟩)])])).modify 2 (setObj (litCells Rows.laid_internal_strconv_uint64pow10))).modify 3 (setObj (litCells Rows.laid_math_bits_deBruijn32tab))).modify 4 (setObj (litCells Rows.laid_math_bits_deBruijn64tab)) }

theorem laidWorld_met (os : Os) (args : Array Value) : laidMetH Tryd.prog Rows.checksRow.laid ((laidIn Tryd.prog os).forCall (fun _ _ => 0) ⟨#[], args, []⟩).memory :=
  laidMetH_of_parts (laidMet_of_run' 8 (by kernel_rfl) (by kernel_rfl)) (by kernel_rfl)

set_option maxRecDepth 100000 in
theorem made_args {H : Type} {enc : TypeId × Value → H} {W : World} {base : Nat} {v0 : Value} {d0 : DataW H} {p0 : List MemPlace} (hval : Value.okWide Tryd.prog W .any base 24 v0) (h0 : DataW.Trod enc Tryd.prog W 0 (fun _ => true) true 24 v0 d0 p0) (hsz : (DataW.weightsEach Tryd.prog [24] [d0]).all (· ≤ reachBytes) = true) :
    ∃ lo ln lc fit q, v0 = .agg #[.slice lo ln lc, .bool fit] ∧ ln ≤ 4398046511000 ∧ SrcI W lo ln q ∧ ∀ j, j < 4 * ln → Fits64 (q j) := by
  obtain ⟨u0, u1, y0, y1, n, rfl, rfl, _, e0, e1⟩ := Joins.open_agg2 Tryd.underlying24 (by kernel_rfl) (by kernel_rfl) hval h0
  obtain ⟨lo, ln, lc, q, rfl, hl, hi, hls⟩ := open_insns e0
  obtain ⟨fit, hb, _⟩ := DataW.trod_bool Tryd.underlying4 e1
  simp at hb
  subst hb
  refine ⟨lo, ln, lc, fit, q, rfl, ?_, hl, hi⟩
  rcases hls with h | ⟨es, sp, h, hle⟩
  · omega
  · have hw : ∀ k ∈ (DataW.slice es sp).weights Tryd.prog 22, k ≤ reachBytes := fun k hk => by
      have := List.all_eq_true.1 hsz k (by
        simp only [DataW.weightsEach, List.mem_append]
        refine Or.inl ?_
        simp only [DataW.weights, Tryd.underlying24]
        simp only [h]
        simp [DataW.weightsEach, hk])
      simpa using this
    have := hw ((es.length + sp.length) * Tryd.prog.bytesOf 44) (by simp [DataW.weights, Tryd.underlying22])
    rw [Tryd.bytesInsn] at this
    simp only [reachBytes] at this
    omega

end Go.Proofs.YthbcfepbkkbjiaaDoor
