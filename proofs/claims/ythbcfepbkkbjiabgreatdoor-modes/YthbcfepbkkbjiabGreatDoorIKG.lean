import Derived.Test.YthbcfepbkkbjiabGreatDoorIKQ
namespace Go.Proofs.YthbcfepbkkbjiabGreatDoor
open Go.RowKit
set_option linter.unusedVariables false
set_option linter.unusedSimpArgs false
theorem Src.less {w : World} {k : IntKind} {ao : Option Addr} {n m : Nat} {g : Nat → Int} (h : Src w k ao n g) (hm : m ≤ n) : Src w k ao m g := fun h0 => by
  obtain ⟨b, off, e, hr⟩ := h (by omega)
  exact ⟨b, off, e, fun j hj => hr j (by omega)⟩
end Go.Proofs.YthbcfepbkkbjiabGreatDoor
