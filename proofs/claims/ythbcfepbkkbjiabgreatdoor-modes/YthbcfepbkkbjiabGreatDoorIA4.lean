import Derived.Test.YthbcfepbkkbjiabGreatDoorIA3
namespace Go.Proofs.YthbcfepbkkbjiabGreatDoor
open Go.RowKit
set_option linter.unusedVariables false
def NoIn (w0 : World) (e : Ending) (w' : World) : Prop := (∃ a b d : Int, e = .returned (.tuple #[.agg #[.int .u8 a, .int .u32 b, .int .u32 d], .bool false])) ∧ w0.grownBy w' none
set_option maxRecDepth 100000 in
set_option maxHeartbeats 1000000 in
theorem fetch_end (w0 w : World) (M MB : Nat) (co : Option Addr) (n c : Nat) (pv sv : Value) (S : Mst) (sd : Bool) (res : Int) (hn : n ≤ 140737488355328)
    (h : PM w0 w M MB (.slice co n c) pv sv S sd res) (hpc : ¬ S.pc < n) (hp2 : S.pc ≤ n + 65539) :
    Calls Tryz.prog 41 #[.pointer (some ⟨M, 0, none⟩)] w fun e w' => NoIn w0 e w' := by
  obtain ⟨c0, c1, c2, c3, c4, c5, c6⟩ := h.cells
  have lM := h.m.lt
  have HH : Hid (PM w0 w M MB (.slice co n c) pv sv S sd res) := h
  clear h
  generalize S.pc = pc at *
  go_enter Tryz.func41, Tryz.ntmps41
  go_wp2
  go_quiet ((go_at_call 57; refine Calls.quiet_of_same (Load_no co n c pc 1 _ (by unfold maxLen; omega) (by omega) (by omega) (by omega))))
  go_wp2
  refine bodyPost_ret (v := .tuple #[.agg #[.int .u8 0, .int .u32 0, .int .u32 0], .bool false]) (by simp only [results, Tryz.results41]; go_simp) rfl ⟨⟨0, 0, 0, rfl⟩, ?_⟩
  (repeat (first | exact HH.out.gr | refine grown_drew ?_ | refine grown_alloc ?_ _ | refine grown_none ?_ (grown_drewN _ _ _) | refine grown_set ?_ (HH.out.gr.size) _))
set_option maxRecDepth 100000 in
set_option maxHeartbeats 1000000 in
theorem fetch_none (w0 w : World) (M MB b off n c : Nat) (g : Nat → Int) (pv sv : Value) (S : Mst) (sd : Bool) (res : Int) (hn : n ≤ 140737488355328) (hc : n ≤ c) (hg : Oct g) (hR : Row w0 .u8 b off n g)
    (h : PM w0 w M MB (.slice (some ⟨b, off, none⟩) n c) pv sv S sd res) (hpc : S.pc < n) (hs : shp (g S.pc) = none) :
    Calls Tryz.prog 41 #[.pointer (some ⟨M, 0, none⟩)] w fun e w' => NoIn w0 e w' := by
  obtain ⟨pc, sp, st, cs⟩ := S
  dsimp only at *
  obtain ⟨c0, c1, c2, c3, c4, c5, c6⟩ := h.cells
  dsimp only at c3
  have lM := h.m.lt
  have HH : Hid (PM w0 w M MB (.slice (some ⟨b, off, none⟩) n c) pv sv ⟨pc, sp, st, cs⟩ sd res) := h
  have HS : Hid (shp (g pc) = none) := hs
  have hb := hg pc
  have HB1 : Hid (g pc = be g pc 1) := (be_one g pc).symm
  clear h hs
  have hlA : ∀ k O, (Instr.lookup 97 (.map (some MB)) (.int .u8 (g pc)) true).run Tryz.prog ((((w.alloc (.cells #[.int .u8 0, .int .u32 0, .int .u32 0] 104)).drewN k).setCell ⟨w.heap.size, 0, none⟩ (.int .u8 (g pc))).alloc O).drew = _ := fun k O => look_no (HH.out.keep (by repeat (first | exact grown_refl _ _ | refine grown_drew ?_ | refine grown_alloc ?_ _ | refine grown_none ?_ (grown_drewN _ _ _) | refine grown_set ?_ (Nat.le_refl _) _))).mp HS.out
  have hlB : ∀ k, (Instr.lookup 97 (.map (some MB)) (.int .u8 (g pc)) true).run Tryz.prog (((w.alloc (.cells #[.int .u8 0, .int .u32 0, .int .u32 0] 104)).drewN k).setCell ⟨w.heap.size, 0, none⟩ (.int .u8 (g pc))).drew = _ := fun k => look_no (HH.out.keep (by repeat (first | exact grown_refl _ _ | refine grown_drew ?_ | refine grown_alloc ?_ _ | refine grown_none ?_ (grown_drewN _ _ _) | refine grown_set ?_ (Nat.le_refl _) _))).mp HS.out
  go_enter Tryz.func41, Tryz.ntmps41
  go_wp2
  go_quiet ((go_at_call 57; refine Calls.quiet_of_same (Load_at w0 _ b off n c pc 1 g (g pc) _ (Or.inr (Or.inl rfl)) hn hc (by omega) hg hR (by repeat (first | exact HH.out.gr | refine grown_drew ?_ | refine grown_alloc ?_ _ | refine grown_none ?_ (grown_drewN _ _ _))) HB1.out rfl)))
  go_wp2
  go_region
  all_goals go_wp2
  refine bodyPost_ret (v := .tuple #[.agg #[.int .u8 (g pc), .int .u32 0, .int .u32 0], .bool false]) (by simp only [results, Tryz.results41]; go_simp) rfl ⟨⟨_, _, _, rfl⟩, ?_⟩
  (repeat (first | exact HH.out.gr | refine grown_drew ?_ | refine grown_alloc ?_ _ | refine grown_none ?_ (grown_drewN _ _ _) | refine grown_set ?_ (HH.out.gr.size) _))
end Go.Proofs.YthbcfepbkkbjiabGreatDoor
