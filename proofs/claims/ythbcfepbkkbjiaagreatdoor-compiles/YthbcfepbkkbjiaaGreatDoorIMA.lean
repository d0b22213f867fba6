import Derived.Test.YthbcfepbkkbjiaaGreatDoorI2
namespace Go.Proofs.YthbcfepbkkbjiaaGreatDoor
open Go.RowKit
set_option linter.unusedVariables false
def Mat (w : World) (po : Option Addr) (n : Nat) (A : Nat → Option Addr) (L C : Nat → Nat) (G : Nat → Nat → Int) : Prop :=
  (∀ r, r < n → L r ≤ C r ∧ C r ≤ maxLen ∧ Oct (G r) ∧ Src w .u8 (A r) (L r) (G r)) ∧ (0 < n → ∃ b off, po = some ⟨b, off, none⟩ ∧ ∀ r, r < n → w.cell? ⟨b, off + r, none⟩ = some (.slice (A r) (L r) (C r)))
theorem Mat.keep {w w' : World} {po : Option Addr} {n : Nat} {A : Nat → Option Addr} {L C : Nat → Nat} {G : Nat → Nat → Int} (h : Mat w po n A L C G) (hg : w.grownBy w' none) : Mat w' po n A L C G := by
  refine ⟨fun r hr => ⟨(h.1 r hr).1, (h.1 r hr).2.1, (h.1 r hr).2.2.1, (h.1 r hr).2.2.2.keep hg⟩, fun hn => ?_⟩
  obtain ⟨b, off, e, hc⟩ := h.2 hn
  exact ⟨b, off, e, fun r hr => hg.cell (hc r hr) (by simp)⟩
theorem Mat.at {w : World} {po : Option Addr} {n : Nat} {A : Nat → Option Addr} {L C : Nat → Nat} {G : Nat → Nat → Int} (h : Mat w po n A L C G) {r : Nat} (hr : r < n) : ∃ b off, po = some ⟨b, off, none⟩ ∧ w.cell? ⟨b, off + r, none⟩ = some (.slice (A r) (L r) (C r)) ∧ L r ≤ C r ∧ C r ≤ maxLen ∧ Oct (G r) ∧ Src w .u8 (A r) (L r) (G r) := by
  obtain ⟨b, off, e, hc⟩ := h.2 (by omega)
  obtain ⟨h1, h2, h3, h4⟩ := h.1 r hr
  exact ⟨b, off, e, hc r hr, h1, h2, h3, h4⟩
end Go.Proofs.YthbcfepbkkbjiaaGreatDoor
