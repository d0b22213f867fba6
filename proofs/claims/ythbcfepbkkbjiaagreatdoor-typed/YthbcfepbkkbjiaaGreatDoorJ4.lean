import Derived.Deep.RegionHeld3
import Derived.Deep.DrawnRows
import Derived.Deep.Cut
import Derived.Test.YthbcfepbkkbjiaaGreatDoorJ3
import Derived.Test.YthbcfepbkkbjiaaGreatDoorJ2
namespace Go.Proofs.YthbcfepbkkbjiaaGreatDoor
open Go.RowKit
attribute [local go_sem ↓] Go.wp_at_zero Go.wp_at_succ
def I64 (c : Int) : Prop := -9223372036854775808 ≤ c ∧ c ≤ 9223372036854775807
theorem ret_int' {k : IntKind} {a b : Int} (h : a = b) : Ending.returned (.int k a) = .returned (.int k b) := by rw [h]
end Go.Proofs.YthbcfepbkkbjiaaGreatDoor
namespace Go.Proofs.YthbcfepbkkbjiaaGreatDoor
open Go.RowKit
attribute [local go_sem ↓] Go.wp_at_zero Go.wp_at_succ
def ins4 (f : Nat → Int) (L : Nat) (a b c d : Int) : Nat → Int := fun j => if j < L * 4 then f j else ([a, b, c, d] : List Int).getD (j - L * 4) 0
theorem ins4_fun (f : Nat → Int) (L : Nat) (a b c d : Int) (j : Nat) (hj : j < (L + 1) * 4) : (if j < L * 4 then ints .i64 f j else #[Value.int .i64 a, .int .i64 b, .int .i64 c, .int .i64 d].getD (j - L * 4) .nilFunc) = ints .i64 (ins4 f L a b c d) j := by
  unfold ints ins4
  by_cases h : j < L * 4
  · rw [if_pos h, if_pos h]
  · rw [if_neg h, if_neg h]
    obtain ⟨i, hi⟩ : ∃ i, j - L * 4 = i := ⟨_, rfl⟩
    rw [hi]
    have : i < 4 := by omega
    match i, this with
    | 0, _ => rfl
    | 1, _ => rfl
    | 2, _ => rfl
    | 3, _ => rfl
end Go.Proofs.YthbcfepbkkbjiaaGreatDoor
