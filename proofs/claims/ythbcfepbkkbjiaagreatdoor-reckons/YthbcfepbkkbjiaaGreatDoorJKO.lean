import Derived.Test.YthbcfepbkkbjiaaGreatDoorJKL
import Derived.Test.YthbcfepbkkbjiaaGreatDoorJKI
namespace Go.Proofs.YthbcfepbkkbjiaaGreatDoor
open Go.RowKit
set_option linter.unusedVariables false
set_option linter.unusedSimpArgs false
set_option maxRecDepth 100000 in
set_option maxHeartbeats 1000000 in
theorem kreckoned (o : Nat) (x y : Int) (w : World) (ho : o < 10) (hx : U32 x) (hy : U32 y) :
    Calls Tryz.prog 31 #[.int .i64 (o : Int), .int .u32 x, .int .u32 y] w fun e w' => e = .returned (.tuple #[.int .u32 (opr o x y), .bool (!div0 o y)]) ∧ w' = w := by
  obtain ⟨x0, x1⟩ := hx
  obtain ⟨y0, y1⟩ := hy
  by_cases h0 : div0 (o : Int) y = true
  · rw [h0, show opr (o : Int) x y = 0 by unfold opr; rw [if_pos h0]]
    obtain ⟨h1, rfl⟩ := (div0_iff _ _).1 h0
    have h1' : o = 3 ∨ o = 4 := by omega
    clear h0 h1
    rcases h1' with rfl | rfl
    all_goals
      go_enter Tryz.func31, Tryz.ntmps31
      go_wp2
      go_ret2
      exact ⟨rfl, rfl⟩
  · have e0 : div0 (o : Int) y = false := by simpa using h0
    rw [e0, show opr (o : Int) x y = opv o x y by unfold opr; rw [if_neg h0]]
    have Y : o = 3 ∨ o = 4 → ¬ y = 0 := fun h e => h0 ((div0_iff _ _).2 ⟨by omega, e⟩)
    have ho' : o = 0 ∨ o = 1 ∨ o = 2 ∨ o = 3 ∨ o = 4 ∨ o = 5 ∨ o = 6 ∨ o = 7 ∨ o = 8 ∨ o = 9 := by omega
    clear h0 e0
    rcases ho' with rfl | rfl | rfl | rfl | rfl | rfl | rfl | rfl | rfl | rfl
    all_goals
      have Y' := Y
      clear Y ho
      try have y2 : ¬ y = 0 := Y' (by decide)
      try clear Y'
      go_enter Tryz.func31, Tryz.ntmps31
      go_wp2
      go_ret2
      exact ⟨rfl, rfl⟩
end Go.Proofs.YthbcfepbkkbjiaaGreatDoor
