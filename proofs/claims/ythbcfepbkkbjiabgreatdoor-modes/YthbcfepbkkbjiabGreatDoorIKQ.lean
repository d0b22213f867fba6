import Derived.Test.YthbcfepbkkbjiabGreatDoorIKD
namespace Go.Proofs.YthbcfepbkkbjiabGreatDoor
open Go.RowKit
set_option linter.unusedVariables false
set_option linter.unusedSimpArgs false
theorem fls_src {w : World} {base L : Nat} {e : TypeId} {v : Value} {u : Nat → Int} (h : w.ownsRow base e 1 v (8 * L) (vals (fls u L))) (hL : 1 ≤ L) : ∃ g cap, v = .slice (some ⟨g, 0, none⟩) (8 * L : Nat) cap ∧ 8 * L ≤ cap ∧ Src w .u8 (some ⟨g, 0, none⟩) (8 * L) (encs u) := by
  obtain ⟨g, cap, rfl, _, hc⟩ := owns_form h (by omega)
  refine ⟨g, cap, rfl, hc, fun hn => ?_⟩
  obtain ⟨b, off, e1, hr⟩ := vals_src h (fls_len u L).symm hn
  refine ⟨b, off, e1, fun j hj => ?_⟩
  have := hr j hj
  have e2 : (fls u L).getD j 0 = encs u j := by simp [fls, List.getD, hj]
  simp only [e2] at this
  exact this
end Go.Proofs.YthbcfepbkkbjiabGreatDoor
