/- Package run: become, told more closely. -/
import Derived.Test.YtgmimakoliifdaaGreatDoorRB
import Derived.StillTailTactics
namespace Go.Proofs.YtgmimakoliifdaaGreatDoor
open Go.RowKit
set_option linter.unusedVariables false
set_option linter.unusedSimpArgs false

theorem wp_region_tl {P : Program} {id : Nat} {Q : Exit → Act → World → Prop} {a : Act} {w : World} {l : List Oper} (n : Nat) (hm : P.follows .mixedOrders = true) (hB : Region.lexTailB .any l.toArray n = true)
    (h : wpStill P l.toArray w.drew (fun a' => wpList P l.toArray Q (l.drop n) a' w.drew) (l.take n) a) : (Code.region id l.toArray true).wp P Q a w := wp_region_still_tail n hm hB h

theorem cell_else {w : World} {M i : Nat} {v u : Value} {B j : Nat} (hB : B ≠ M) (h : w.cell? ⟨B, j, none⟩ = some u) : (w.setCell ⟨M, i, none⟩ v).cell? ⟨B, j, none⟩ = some u := by
  have := Below.heap_setCell w ⟨M, i, none⟩ v B hB
  rw [← h]
  simp [World.cell?, this]

set_option maxRecDepth 100000 in
set_option maxHeartbeats 400000 in
theorem become_ok2 (w0 w : World) (M KB SB OB UB : Nat) (pv : Value) (S : Flt) (en : Bool) (vd v : Int) (h : QM w0 w M KB SB OB UB pv S en vd) :
    Calls Tryz.prog 113 #[.pointer (some ⟨M, 0, none⟩), .int .u32 v, .bool true] w fun e w' => e = .returned (.tuple #[]) ∧ QM w0 w' M KB SB OB UB pv ⟨S.pc, v, S.x, S.cs⟩ en vd ∧ ∀ B j u, B ≠ M → w.cell? ⟨B, j, none⟩ = some u → w'.cell? ⟨B, j, none⟩ = some u := by
  obtain ⟨c0, c1, c2, c3, c4, c5, c6, c7, c8, c9⟩ := h.cells
  obtain ⟨z1, z2, z3, z4, z5⟩ := h.free
  have HH : Hid (QM w0 w M KB SB OB UB pv S en vd) := h
  clear h
  go_enter Tryz.func113, Tryz.ntmps113
  go_wp2
  go_end0
  exact ⟨rfl, HH.out.setA v, fun B j u hB hc => cell_else hB hc⟩

set_option maxRecDepth 100000 in
set_option maxHeartbeats 400000 in
theorem end_any2 (w0 w : World) (M KB SB OB UB : Nat) (pv : Value) (S : Flt) (en : Bool) (vd v : Int) (h : QM w0 w M KB SB OB UB pv S en vd) :
    Calls Tryz.prog 115 #[.pointer (some ⟨M, 0, none⟩), .int .u32 v] w fun e w' => e = .returned (.tuple #[]) ∧ QM w0 w' M KB SB OB UB pv S true v ∧ ∀ B j u, B ≠ M → w.cell? ⟨B, j, none⟩ = some u → w'.cell? ⟨B, j, none⟩ = some u := by
  obtain ⟨c0, c1, c2, c3, c4, c5, c6, c7, c8, c9⟩ := h.cells
  obtain ⟨z1, z2, z3, z4, z5⟩ := h.free
  have HH : Hid (QM w0 w M KB SB OB UB pv S en vd) := h
  clear h
  go_enter Tryz.func115, Tryz.ntmps115
  go_wp2
  go_end0
  exact ⟨rfl, HH.out.fin v, fun B j u hB hc => cell_else hB (cell_else hB hc)⟩

set_option maxRecDepth 100000 in
set_option maxHeartbeats 400000 in
theorem become_no2 (w0 w : World) (M KB SB OB UB : Nat) (pv : Value) (S : Flt) (en : Bool) (vd v : Int) (h : QM w0 w M KB SB OB UB pv S en vd) :
    Calls Tryz.prog 113 #[.pointer (some ⟨M, 0, none⟩), .int .u32 v, .bool false] w fun e w' => e = .returned (.tuple #[]) ∧ QM w0 w' M KB SB OB UB pv ⟨S.pc, v, S.x, S.cs⟩ true 0 ∧ ∀ B j u, B ≠ M → w.cell? ⟨B, j, none⟩ = some u → w'.cell? ⟨B, j, none⟩ = some u := by
  go_enter Tryz.func113, Tryz.ntmps113
  go_wp2_with (go_at_call 115; refine (end_any2 w0 _ M KB SB OB UB pv S en vd 0 h).mono ?_; rintro e w1 ⟨rfl, h1, k1⟩; obtain ⟨c0, c1, c2, c3, c4, c5, c6, c7, c8, c9⟩ := h1.cells; obtain ⟨z1, z2, z3, z4, z5⟩ := h1.free)
  go_end0
  exact ⟨rfl, h1.setA v, fun B j u hB hc => cell_else hB (k1 B j u hB hc)⟩

end Go.Proofs.YtgmimakoliifdaaGreatDoor
