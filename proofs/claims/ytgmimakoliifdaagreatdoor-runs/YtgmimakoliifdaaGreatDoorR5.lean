/- The walks of package insn's maps: sizes, operators, questions. -/
import Derived.Test.YtgmimakoliifdaaGreatDoorZ1
namespace Go.Proofs.YtgmimakoliifdaaGreatDoor
open Go.RowKit

def szmap (D : Int) : Option Value := if D = 177 then some (.int .i64 1) else if D = 80 then some (.int .i64 1) else if D = 72 then some (.int .i64 2) else if D = 64 then some (.int .i64 4) else if D = 48 then some (.int .i64 1) else if D = 40 then some (.int .i64 2) else if D = 32 then some (.int .i64 4) else none

set_option maxRecDepth 100000 in
set_option maxHeartbeats 2000000 in
theorem sizes_any (w : World) : Calls Tryz.prog 55 #[] w fun e w' => e = .returned (.map (some w.heap.size)) ∧ IMap w' w.heap.size szmap ∧ w.grownBy w' none := by
  have hmm := @run_makeMap Tryz.prog
  have h0 : IMap (w.alloc (.map #[] 0)) w.heap.size (fun _ => none) ∧ w.grownBy (w.alloc (.map #[] 0)) none := ⟨imap_new w, grown_alloc (grown_refl w none) (.map #[] 0)⟩
  go_enter Tryz.func55, Tryz.ntmps55
  go_wp2_with (refine wpList_put_own _ w rfl _ _ _ 94 rfl 3 3 Tryz.underlying94 Tryz.underlying3 w.heap.size _ _ _ _ rfl rfl rfl (by assumption) (Nat.le_refl _) ?_; clear h0; intro w0 h0)
  go_ret
  exact ⟨rfl, h0.1, h0.2⟩

def opmap (D : Int) : Option Value := if D = 124 then some (.int .i64 9) else if D = 116 then some (.int .i64 9) else if D = 108 then some (.int .i64 8) else if D = 100 then some (.int .i64 8) else if D = 172 then some (.int .i64 7) else if D = 164 then some (.int .i64 7) else if D = 92 then some (.int .i64 6) else if D = 84 then some (.int .i64 6) else if D = 76 then some (.int .i64 5) else if D = 68 then some (.int .i64 5) else if D = 156 then some (.int .i64 4) else if D = 148 then some (.int .i64 4) else if D = 60 then some (.int .i64 3) else if D = 52 then some (.int .i64 3) else if D = 44 then some (.int .i64 2) else if D = 36 then some (.int .i64 2) else if D = 28 then some (.int .i64 1) else if D = 20 then some (.int .i64 1) else if D = 12 then some (.int .i64 0) else if D = 4 then some (.int .i64 0) else none

set_option maxRecDepth 100000 in
set_option maxHeartbeats 2000000 in
theorem operators_any (w : World) : Calls Tryz.prog 56 #[] w fun e w' => e = .returned (.map (some w.heap.size)) ∧ IMap w' w.heap.size opmap ∧ w.grownBy w' none := by
  have hmm := @run_makeMap Tryz.prog
  have h0 : IMap (w.alloc (.map #[] 0)) w.heap.size (fun _ => none) ∧ w.grownBy (w.alloc (.map #[] 0)) none := ⟨imap_new w, grown_alloc (grown_refl w none) (.map #[] 0)⟩
  go_enter Tryz.func56, Tryz.ntmps56
  go_wp2_with (refine wpList_put_own _ w rfl _ _ _ 96 rfl 3 148 Tryz.underlying96 Tryz.underlying3 w.heap.size _ _ _ _ rfl rfl rfl (by assumption) (Nat.le_refl _) ?_; clear h0; intro w0 h0)
  go_ret
  exact ⟨rfl, h0.1, h0.2⟩

def qumap (D : Int) : Option Value := if D = 77 then some (.int .i64 3) else if D = 69 then some (.int .i64 3) else if D = 61 then some (.int .i64 2) else if D = 53 then some (.int .i64 2) else if D = 45 then some (.int .i64 1) else if D = 37 then some (.int .i64 1) else if D = 29 then some (.int .i64 0) else if D = 21 then some (.int .i64 0) else none

set_option maxRecDepth 100000 in
set_option maxHeartbeats 2000000 in
theorem questions_any (w : World) : Calls Tryz.prog 57 #[] w fun e w' => e = .returned (.map (some w.heap.size)) ∧ IMap w' w.heap.size qumap ∧ w.grownBy w' none := by
  have hmm := @run_makeMap Tryz.prog
  have h0 : IMap (w.alloc (.map #[] 0)) w.heap.size (fun _ => none) ∧ w.grownBy (w.alloc (.map #[] 0)) none := ⟨imap_new w, grown_alloc (grown_refl w none) (.map #[] 0)⟩
  go_enter Tryz.func57, Tryz.ntmps57
  go_wp2_with (refine wpList_put_own _ w rfl _ _ _ 98 rfl 3 149 Tryz.underlying98 Tryz.underlying3 w.heap.size _ _ _ _ rfl rfl rfl (by assumption) (Nat.le_refl _) ?_; clear h0; intro w0 h0)
  go_ret
  exact ⟨rfl, h0.1, h0.2⟩

end Go.Proofs.YtgmimakoliifdaaGreatDoor
