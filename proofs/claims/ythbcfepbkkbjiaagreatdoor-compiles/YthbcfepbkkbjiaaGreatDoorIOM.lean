import Derived.Deep.Matrix
import Derived.Test.YthbcfepbkkbjiaaGreatDoorIMA
import Derived.Test.YthbcfepbkkbjiaaGreatDoorIO
namespace Go.Proofs.YthbcfepbkkbjiaaGreatDoor
open Go.ChangeShapes Go.WideShapes Go.ChangeAt Go.RowKit Go.Deep
set_option linter.unusedVariables false
theorem Tryz.cellsBytes : Tryz.prog.cellsOf 25 = 1 := by kernel_rfl
theorem oct_getD {zs : List Int} (h : ∀ n ∈ zs, (Lit.int .u8 n).wf = true) : Oct (fun j => zs.getD j 0) := fun j => by
  by_cases hj : j < zs.length
  · have := h zs[j] (List.getElem_mem hj)
    simp only [Lit.wf, IntKind.min, IntKind.max, IntKind.signed, IntKind.bits, Bool.and_eq_true] at this
    simp [List.getD, hj]
    simp at this
    omega
  · simp [List.getD, List.getElem?_eq_none (by omega : zs.length ≤ j)]
theorem add_none (b off j : Nat) : (⟨b, off, none⟩ : Addr).add j = ⟨b, off + j, none⟩ := by unfold Addr.add; split <;> simp_all
section
variable {H : Type} {enc : TypeId × Value → H} {w : World} {base : Nat} {held : Bool}
theorem open_mat {fuel : Nat} {po : Option Addr} {n pc : Nat} {x : DataW H × List MemPlace} (h : DataW.trod enc Tryz.prog w base (fun _ => true) held fuel 33 [.slice po n pc] = some x) :
    ∃ A L C G, Mat w po n A L C G ∧ n ≤ pc ∧ pc ≤ maxLen := by
  rcases open_int_rows Tryz.underlying33 Tryz.underlying25 Tryz.underlying5 Tryz.cellsBytes Tryz.cellsByte h with ⟨hcs, _⟩ | ⟨a, l, c, A, L, C, Z, hcs, _, hl, hm, _, hr⟩
  · simp at hcs
    obtain ⟨rfl, rfl, rfl⟩ := hcs
    exact ⟨fun _ => none, fun _ => 0, fun _ => 0, fun _ _ => 0, ⟨fun r hr => by omega, fun h => by omega⟩, Nat.le_refl _, Nat.zero_le _⟩
  · simp at hcs
    obtain ⟨rfl, rfl, rfl⟩ := hcs
    refine ⟨A, L, C, fun r j => (Z r).getD j 0, ⟨fun r hrn => ?_, fun hn => ?_⟩, hl, hm⟩
    · obtain ⟨_, h1, h2, h3, h4, h5, h6⟩ := hr r (by omega)
      refine ⟨h1, h2, oct_getD h4, fun hp => ?_⟩
      cases e : A r with
      | none => have := h5 e; omega
      | some a' =>
        obtain ⟨_, h7⟩ := h6 a' e
        obtain ⟨b, off, spot⟩ := a'
        have hspot : spot = none := by simpa [Addr.add] using World.cell?_spot (h7 0 (by omega))
        subst hspot
        refine ⟨b, off, rfl, fun j hj => ?_⟩
        have := h7 j (by omega)
        rw [add_none] at this
        exact this
    · obtain ⟨b, off, spot⟩ := a
      have hspot : spot = none := by simpa [Addr.add] using World.cell?_spot (hr 0 (by omega)).1
      subst hspot
      refine ⟨b, off, rfl, fun r hrn => ?_⟩
      have := (hr r (by omega)).1
      rw [add_none] at this
      exact this
end
end Go.Proofs.YthbcfepbkkbjiaaGreatDoor
