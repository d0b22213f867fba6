import Derived.Deep.RegionHeld3
import Derived.Deep.DrawnRows
import Derived.Deep.Cut
import Derived.Test.YthbcfepbkkbjiabGreatDoorI3
import Derived.Test.YthbcfepbkkbjiabGreatDoorI2
namespace Go.Proofs.YthbcfepbkkbjiabGreatDoor
open Go.RowKit
attribute [local go_sem ↓] Go.wp_at_zero Go.wp_at_succ
def I64 (c : Int) : Prop := -9223372036854775808 ≤ c ∧ c ≤ 9223372036854775807
theorem ret_int' {k : IntKind} {a b : Int} (h : a = b) : Ending.returned (.int k a) = .returned (.int k b) := by rw [h]
end Go.Proofs.YthbcfepbkkbjiabGreatDoor
namespace Go.Proofs.YthbcfepbkkbjiabGreatDoor
open Go.RowKit
attribute [local go_sem ↓] Go.wp_at_zero Go.wp_at_succ
theorem four {wr : World} {B : Nat} {a b c d : Value} {e : TypeId} (h : wr.heap[B]? = some (.cells #[a, b, c, d] e (0, 0))) :
    (wr.cell? ⟨B, 0, none⟩ = some a ∧ wr.cell? ⟨B, 1, none⟩ = some b ∧ wr.cell? ⟨B, 2, none⟩ = some c ∧ wr.cell? ⟨B, 3, none⟩ = some d) ∧ ∀ j, wr.frozen? ⟨B, j, none⟩ = false :=
  ⟨⟨cell_of_row wr B 0 _ e (0, 0) h, cell_of_row wr B 1 _ e (0, 0) h, cell_of_row wr B 2 _ e (0, 0) h, cell_of_row wr B 3 _ e (0, 0) h⟩, fun j => by simp [World.frozen?, h]⟩
end Go.Proofs.YthbcfepbkkbjiabGreatDoor
