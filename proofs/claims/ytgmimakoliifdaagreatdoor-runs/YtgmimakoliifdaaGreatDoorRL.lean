/- Package run: do, a class of codes each. -/
import Derived.Test.YtgmimakoliifdaaGreatDoorRE
namespace Go.Proofs.YtgmimakoliifdaaGreatDoor
open Go.RowKit
set_option linter.unusedVariables false
set_option linter.unusedSimpArgs false

set_option maxRecDepth 100000 in
set_option maxHeartbeats 1000000 in
theorem do_c1 (w0 w : World) (M KB SB OB UB : Nat) (pv : Value) (S : Flt) (vd C jt jf k : Int) (Post : World → Prop) (h : QM w0 w M KB SB OB UB pv S false vd) (hc : (kd C).cls = 1)
    (HA : ∀ w', QM w0 w' M KB SB OB UB pv S false vd → Calls Tryz.prog 81 #[.pointer (some ⟨M, 0, none⟩), .agg #[.int .i64 C, .int .i64 jt, .int .i64 jf, .int .i64 k]] w' fun e w'' => e = .returned (.tuple #[]) ∧ Post w'') :
    Calls Tryz.prog 58 #[.pointer (some ⟨M, 0, none⟩), .agg #[.int .i64 C, .int .i64 jt, .int .i64 jf, .int .i64 k]] w fun e w' => e = .returned (.tuple #[]) ∧ Post w' := by
  obtain ⟨c0, c1, c2, c3, c4, c5, c6, c7, c8, c9⟩ := h.cells
  have lM := h.m.lt
  have HH : Hid (QM w0 w M KB SB OB UB pv S false vd) := h
  have hl : ∀ d, (Instr.lookup 92 (.map (some KB)) (.int .i64 C) false).run Tryz.prog ((w.alloc (.cells #[.int .i64 C, .int .i64 jt, .int .i64 jf, .int .i64 k] 51)).drewN d) = .ok (.int .i64 1) ((w.alloc (.cells #[.int .i64 C, .int .i64 jt, .int .i64 jf, .int .i64 k] 51)).drewN d) := fun d => look_kd ((h.allo _).drewN d).ik hc
  have hl0 := hl 0
  have HB : Hid _ := HA
  clear h hc HA
  go_enter Tryz.func58, Tryz.ntmps58
  go_wp2
  go_quiet (fail)
  go_wp2_with (go_at_call 81; refine (HB.out _ (by repeat (first | exact HH.out | refine QM.drew ?_ | refine QM.drewN ?_ _ | refine QM.allo ?_ _))).mono ?_; rintro e w1 ⟨rfl, h1⟩)
  go_end0
  exact ⟨rfl, h1⟩

set_option maxRecDepth 100000 in
set_option maxHeartbeats 1000000 in
theorem do_c2 (w0 w : World) (M KB SB OB UB : Nat) (pv : Value) (S : Flt) (vd C jt jf k : Int) (Post : World → Prop) (h : QM w0 w M KB SB OB UB pv S false vd) (hc : (kd C).cls = 2)
    (HA : ∀ w', QM w0 w' M KB SB OB UB pv S false vd → Calls Tryz.prog 82 #[.pointer (some ⟨M, 0, none⟩), .agg #[.int .i64 C, .int .i64 jt, .int .i64 jf, .int .i64 k]] w' fun e w'' => e = .returned (.tuple #[]) ∧ Post w'') :
    Calls Tryz.prog 58 #[.pointer (some ⟨M, 0, none⟩), .agg #[.int .i64 C, .int .i64 jt, .int .i64 jf, .int .i64 k]] w fun e w' => e = .returned (.tuple #[]) ∧ Post w' := by
  obtain ⟨c0, c1, c2, c3, c4, c5, c6, c7, c8, c9⟩ := h.cells
  have lM := h.m.lt
  have HH : Hid (QM w0 w M KB SB OB UB pv S false vd) := h
  have hl : ∀ d, (Instr.lookup 92 (.map (some KB)) (.int .i64 C) false).run Tryz.prog ((w.alloc (.cells #[.int .i64 C, .int .i64 jt, .int .i64 jf, .int .i64 k] 51)).drewN d) = .ok (.int .i64 2) ((w.alloc (.cells #[.int .i64 C, .int .i64 jt, .int .i64 jf, .int .i64 k] 51)).drewN d) := fun d => look_kd ((h.allo _).drewN d).ik hc
  have hl0 := hl 0
  have HB : Hid _ := HA
  clear h hc HA
  go_enter Tryz.func58, Tryz.ntmps58
  go_wp2
  go_quiet (fail)
  go_wp2_with (go_at_call 82; refine (HB.out _ (by repeat (first | exact HH.out | refine QM.drew ?_ | refine QM.drewN ?_ _ | refine QM.allo ?_ _))).mono ?_; rintro e w1 ⟨rfl, h1⟩)
  go_end0
  exact ⟨rfl, h1⟩

set_option maxRecDepth 100000 in
set_option maxHeartbeats 1000000 in
theorem do_c3 (w0 w : World) (M KB SB OB UB : Nat) (pv : Value) (S : Flt) (vd C jt jf k : Int) (Post : World → Prop) (h : QM w0 w M KB SB OB UB pv S false vd) (hc : (kd C).cls = 3)
    (HA : ∀ w', QM w0 w' M KB SB OB UB pv S false vd → Calls Tryz.prog 82 #[.pointer (some ⟨M, 0, none⟩), .agg #[.int .i64 C, .int .i64 jt, .int .i64 jf, .int .i64 k]] w' fun e w'' => e = .returned (.tuple #[]) ∧ Post w'') :
    Calls Tryz.prog 58 #[.pointer (some ⟨M, 0, none⟩), .agg #[.int .i64 C, .int .i64 jt, .int .i64 jf, .int .i64 k]] w fun e w' => e = .returned (.tuple #[]) ∧ Post w' := by
  obtain ⟨c0, c1, c2, c3, c4, c5, c6, c7, c8, c9⟩ := h.cells
  have lM := h.m.lt
  have HH : Hid (QM w0 w M KB SB OB UB pv S false vd) := h
  have hl : ∀ d, (Instr.lookup 92 (.map (some KB)) (.int .i64 C) false).run Tryz.prog ((w.alloc (.cells #[.int .i64 C, .int .i64 jt, .int .i64 jf, .int .i64 k] 51)).drewN d) = .ok (.int .i64 3) ((w.alloc (.cells #[.int .i64 C, .int .i64 jt, .int .i64 jf, .int .i64 k] 51)).drewN d) := fun d => look_kd ((h.allo _).drewN d).ik hc
  have hl0 := hl 0
  have HB : Hid _ := HA
  clear h hc HA
  go_enter Tryz.func58, Tryz.ntmps58
  go_wp2
  go_quiet (fail)
  go_wp2_with (go_at_call 82; refine (HB.out _ (by repeat (first | exact HH.out | refine QM.drew ?_ | refine QM.drewN ?_ _ | refine QM.allo ?_ _))).mono ?_; rintro e w1 ⟨rfl, h1⟩)
  go_end0
  exact ⟨rfl, h1⟩

set_option maxRecDepth 100000 in
set_option maxHeartbeats 1000000 in
theorem do_c4 (w0 w : World) (M KB SB OB UB : Nat) (pv : Value) (S : Flt) (vd C jt jf k : Int) (Post : World → Prop) (h : QM w0 w M KB SB OB UB pv S false vd) (hc : (kd C).cls = 4)
    (HA : ∀ w', QM w0 w' M KB SB OB UB pv S false vd → Calls Tryz.prog 83 #[.pointer (some ⟨M, 0, none⟩), .agg #[.int .i64 C, .int .i64 jt, .int .i64 jf, .int .i64 k]] w' fun e w'' => e = .returned (.tuple #[]) ∧ Post w'') :
    Calls Tryz.prog 58 #[.pointer (some ⟨M, 0, none⟩), .agg #[.int .i64 C, .int .i64 jt, .int .i64 jf, .int .i64 k]] w fun e w' => e = .returned (.tuple #[]) ∧ Post w' := by
  obtain ⟨c0, c1, c2, c3, c4, c5, c6, c7, c8, c9⟩ := h.cells
  have lM := h.m.lt
  have HH : Hid (QM w0 w M KB SB OB UB pv S false vd) := h
  have hl : ∀ d, (Instr.lookup 92 (.map (some KB)) (.int .i64 C) false).run Tryz.prog ((w.alloc (.cells #[.int .i64 C, .int .i64 jt, .int .i64 jf, .int .i64 k] 51)).drewN d) = .ok (.int .i64 4) ((w.alloc (.cells #[.int .i64 C, .int .i64 jt, .int .i64 jf, .int .i64 k] 51)).drewN d) := fun d => look_kd ((h.allo _).drewN d).ik hc
  have hl0 := hl 0
  have HB : Hid _ := HA
  clear h hc HA
  go_enter Tryz.func58, Tryz.ntmps58
  go_wp2
  go_quiet (fail)
  go_wp2_with (go_at_call 83; refine (HB.out _ (by repeat (first | exact HH.out | refine QM.drew ?_ | refine QM.drewN ?_ _ | refine QM.allo ?_ _))).mono ?_; rintro e w1 ⟨rfl, h1⟩)
  go_end0
  exact ⟨rfl, h1⟩

set_option maxRecDepth 100000 in
set_option maxHeartbeats 1000000 in
theorem do_c5 (w0 w : World) (M KB SB OB UB : Nat) (pv : Value) (S : Flt) (vd C jt jf k : Int) (Post : World → Prop) (h : QM w0 w M KB SB OB UB pv S false vd) (hc : (kd C).cls = 5)
    (HA : ∀ w', QM w0 w' M KB SB OB UB pv S false vd → Calls Tryz.prog 83 #[.pointer (some ⟨M, 0, none⟩), .agg #[.int .i64 C, .int .i64 jt, .int .i64 jf, .int .i64 k]] w' fun e w'' => e = .returned (.tuple #[]) ∧ Post w'') :
    Calls Tryz.prog 58 #[.pointer (some ⟨M, 0, none⟩), .agg #[.int .i64 C, .int .i64 jt, .int .i64 jf, .int .i64 k]] w fun e w' => e = .returned (.tuple #[]) ∧ Post w' := by
  obtain ⟨c0, c1, c2, c3, c4, c5, c6, c7, c8, c9⟩ := h.cells
  have lM := h.m.lt
  have HH : Hid (QM w0 w M KB SB OB UB pv S false vd) := h
  have hl : ∀ d, (Instr.lookup 92 (.map (some KB)) (.int .i64 C) false).run Tryz.prog ((w.alloc (.cells #[.int .i64 C, .int .i64 jt, .int .i64 jf, .int .i64 k] 51)).drewN d) = .ok (.int .i64 5) ((w.alloc (.cells #[.int .i64 C, .int .i64 jt, .int .i64 jf, .int .i64 k] 51)).drewN d) := fun d => look_kd ((h.allo _).drewN d).ik hc
  have hl0 := hl 0
  have HB : Hid _ := HA
  clear h hc HA
  go_enter Tryz.func58, Tryz.ntmps58
  go_wp2
  go_quiet (fail)
  go_wp2_with (go_at_call 83; refine (HB.out _ (by repeat (first | exact HH.out | refine QM.drew ?_ | refine QM.drewN ?_ _ | refine QM.allo ?_ _))).mono ?_; rintro e w1 ⟨rfl, h1⟩)
  go_end0
  exact ⟨rfl, h1⟩

set_option maxRecDepth 100000 in
set_option maxHeartbeats 1000000 in
theorem do_c6 (w0 w : World) (M KB SB OB UB : Nat) (pv : Value) (S : Flt) (vd C jt jf k : Int) (Post : World → Prop) (h : QM w0 w M KB SB OB UB pv S false vd) (hc : (kd C).cls = 6)
    (HA : ∀ w', QM w0 w' M KB SB OB UB pv S false vd → Calls Tryz.prog 84 #[.pointer (some ⟨M, 0, none⟩), .agg #[.int .i64 C, .int .i64 jt, .int .i64 jf, .int .i64 k]] w' fun e w'' => e = .returned (.tuple #[]) ∧ Post w'') :
    Calls Tryz.prog 58 #[.pointer (some ⟨M, 0, none⟩), .agg #[.int .i64 C, .int .i64 jt, .int .i64 jf, .int .i64 k]] w fun e w' => e = .returned (.tuple #[]) ∧ Post w' := by
  obtain ⟨c0, c1, c2, c3, c4, c5, c6, c7, c8, c9⟩ := h.cells
  have lM := h.m.lt
  have HH : Hid (QM w0 w M KB SB OB UB pv S false vd) := h
  have hl : ∀ d, (Instr.lookup 92 (.map (some KB)) (.int .i64 C) false).run Tryz.prog ((w.alloc (.cells #[.int .i64 C, .int .i64 jt, .int .i64 jf, .int .i64 k] 51)).drewN d) = .ok (.int .i64 6) ((w.alloc (.cells #[.int .i64 C, .int .i64 jt, .int .i64 jf, .int .i64 k] 51)).drewN d) := fun d => look_kd ((h.allo _).drewN d).ik hc
  have hl0 := hl 0
  have HB : Hid _ := HA
  clear h hc HA
  go_enter Tryz.func58, Tryz.ntmps58
  go_wp2
  go_quiet (fail)
  go_wp2_with (go_at_call 84; refine (HB.out _ (by repeat (first | exact HH.out | refine QM.drew ?_ | refine QM.drewN ?_ _ | refine QM.allo ?_ _))).mono ?_; rintro e w1 ⟨rfl, h1⟩)
  go_end0
  exact ⟨rfl, h1⟩

set_option maxRecDepth 100000 in
set_option maxHeartbeats 1000000 in
theorem do_c7 (w0 w : World) (M KB SB OB UB : Nat) (pv : Value) (S : Flt) (vd C jt jf k : Int) (Post : World → Prop) (h : QM w0 w M KB SB OB UB pv S false vd) (hc : (kd C).cls = 7)
    (HA : ∀ w', QM w0 w' M KB SB OB UB pv S false vd → Calls Tryz.prog 84 #[.pointer (some ⟨M, 0, none⟩), .agg #[.int .i64 C, .int .i64 jt, .int .i64 jf, .int .i64 k]] w' fun e w'' => e = .returned (.tuple #[]) ∧ Post w'') :
    Calls Tryz.prog 58 #[.pointer (some ⟨M, 0, none⟩), .agg #[.int .i64 C, .int .i64 jt, .int .i64 jf, .int .i64 k]] w fun e w' => e = .returned (.tuple #[]) ∧ Post w' := by
  obtain ⟨c0, c1, c2, c3, c4, c5, c6, c7, c8, c9⟩ := h.cells
  have lM := h.m.lt
  have HH : Hid (QM w0 w M KB SB OB UB pv S false vd) := h
  have hl : ∀ d, (Instr.lookup 92 (.map (some KB)) (.int .i64 C) false).run Tryz.prog ((w.alloc (.cells #[.int .i64 C, .int .i64 jt, .int .i64 jf, .int .i64 k] 51)).drewN d) = .ok (.int .i64 7) ((w.alloc (.cells #[.int .i64 C, .int .i64 jt, .int .i64 jf, .int .i64 k] 51)).drewN d) := fun d => look_kd ((h.allo _).drewN d).ik hc
  have hl0 := hl 0
  have HB : Hid _ := HA
  clear h hc HA
  go_enter Tryz.func58, Tryz.ntmps58
  go_wp2
  go_quiet (fail)
  go_wp2_with (go_at_call 84; refine (HB.out _ (by repeat (first | exact HH.out | refine QM.drew ?_ | refine QM.drewN ?_ _ | refine QM.allo ?_ _))).mono ?_; rintro e w1 ⟨rfl, h1⟩)
  go_end0
  exact ⟨rfl, h1⟩

set_option maxRecDepth 100000 in
set_option maxHeartbeats 1000000 in
theorem do_c8 (w0 w : World) (M KB SB OB UB : Nat) (pv : Value) (S : Flt) (vd C jt jf k : Int) (Post : World → Prop) (h : QM w0 w M KB SB OB UB pv S false vd) (hc : (kd C).cls = 8)
    (HA : ∀ w', QM w0 w' M KB SB OB UB pv S false vd → Calls Tryz.prog 84 #[.pointer (some ⟨M, 0, none⟩), .agg #[.int .i64 C, .int .i64 jt, .int .i64 jf, .int .i64 k]] w' fun e w'' => e = .returned (.tuple #[]) ∧ Post w'') :
    Calls Tryz.prog 58 #[.pointer (some ⟨M, 0, none⟩), .agg #[.int .i64 C, .int .i64 jt, .int .i64 jf, .int .i64 k]] w fun e w' => e = .returned (.tuple #[]) ∧ Post w' := by
  obtain ⟨c0, c1, c2, c3, c4, c5, c6, c7, c8, c9⟩ := h.cells
  have lM := h.m.lt
  have HH : Hid (QM w0 w M KB SB OB UB pv S false vd) := h
  have hl : ∀ d, (Instr.lookup 92 (.map (some KB)) (.int .i64 C) false).run Tryz.prog ((w.alloc (.cells #[.int .i64 C, .int .i64 jt, .int .i64 jf, .int .i64 k] 51)).drewN d) = .ok (.int .i64 8) ((w.alloc (.cells #[.int .i64 C, .int .i64 jt, .int .i64 jf, .int .i64 k] 51)).drewN d) := fun d => look_kd ((h.allo _).drewN d).ik hc
  have hl0 := hl 0
  have HB : Hid _ := HA
  clear h hc HA
  go_enter Tryz.func58, Tryz.ntmps58
  go_wp2
  go_quiet (fail)
  go_wp2_with (go_at_call 84; refine (HB.out _ (by repeat (first | exact HH.out | refine QM.drew ?_ | refine QM.drewN ?_ _ | refine QM.allo ?_ _))).mono ?_; rintro e w1 ⟨rfl, h1⟩)
  go_end0
  exact ⟨rfl, h1⟩

set_option maxRecDepth 100000 in
set_option maxHeartbeats 1000000 in
theorem do_c9 (w0 w : World) (M KB SB OB UB : Nat) (pv : Value) (S : Flt) (vd C jt jf k : Int) (Post : World → Prop) (h : QM w0 w M KB SB OB UB pv S false vd) (hc : (kd C).cls = 9)
    (HA : ∀ w', QM w0 w' M KB SB OB UB pv S false vd → Calls Tryz.prog 85 #[.pointer (some ⟨M, 0, none⟩), .agg #[.int .i64 C, .int .i64 jt, .int .i64 jf, .int .i64 k]] w' fun e w'' => e = .returned (.tuple #[]) ∧ Post w'') :
    Calls Tryz.prog 58 #[.pointer (some ⟨M, 0, none⟩), .agg #[.int .i64 C, .int .i64 jt, .int .i64 jf, .int .i64 k]] w fun e w' => e = .returned (.tuple #[]) ∧ Post w' := by
  obtain ⟨c0, c1, c2, c3, c4, c5, c6, c7, c8, c9⟩ := h.cells
  have lM := h.m.lt
  have HH : Hid (QM w0 w M KB SB OB UB pv S false vd) := h
  have hl : ∀ d, (Instr.lookup 92 (.map (some KB)) (.int .i64 C) false).run Tryz.prog ((w.alloc (.cells #[.int .i64 C, .int .i64 jt, .int .i64 jf, .int .i64 k] 51)).drewN d) = .ok (.int .i64 9) ((w.alloc (.cells #[.int .i64 C, .int .i64 jt, .int .i64 jf, .int .i64 k] 51)).drewN d) := fun d => look_kd ((h.allo _).drewN d).ik hc
  have hl0 := hl 0
  have HB : Hid _ := HA
  clear h hc HA
  go_enter Tryz.func58, Tryz.ntmps58
  go_wp2
  go_quiet (fail)
  go_wp2_with (go_at_call 85; refine (HB.out _ (by repeat (first | exact HH.out | refine QM.drew ?_ | refine QM.drewN ?_ _ | refine QM.allo ?_ _))).mono ?_; rintro e w1 ⟨rfl, h1⟩)
  go_end0
  exact ⟨rfl, h1⟩

set_option maxRecDepth 100000 in
set_option maxHeartbeats 1000000 in
theorem do_c10 (w0 w : World) (M KB SB OB UB : Nat) (pv : Value) (S : Flt) (vd C jt jf k : Int) (Post : World → Prop) (h : QM w0 w M KB SB OB UB pv S false vd) (hc : (kd C).cls = 10)
    (HA : ∀ w', QM w0 w' M KB SB OB UB pv S false vd → Calls Tryz.prog 85 #[.pointer (some ⟨M, 0, none⟩), .agg #[.int .i64 C, .int .i64 jt, .int .i64 jf, .int .i64 k]] w' fun e w'' => e = .returned (.tuple #[]) ∧ Post w'') :
    Calls Tryz.prog 58 #[.pointer (some ⟨M, 0, none⟩), .agg #[.int .i64 C, .int .i64 jt, .int .i64 jf, .int .i64 k]] w fun e w' => e = .returned (.tuple #[]) ∧ Post w' := by
  obtain ⟨c0, c1, c2, c3, c4, c5, c6, c7, c8, c9⟩ := h.cells
  have lM := h.m.lt
  have HH : Hid (QM w0 w M KB SB OB UB pv S false vd) := h
  have hl : ∀ d, (Instr.lookup 92 (.map (some KB)) (.int .i64 C) false).run Tryz.prog ((w.alloc (.cells #[.int .i64 C, .int .i64 jt, .int .i64 jf, .int .i64 k] 51)).drewN d) = .ok (.int .i64 10) ((w.alloc (.cells #[.int .i64 C, .int .i64 jt, .int .i64 jf, .int .i64 k] 51)).drewN d) := fun d => look_kd ((h.allo _).drewN d).ik hc
  have hl0 := hl 0
  have HB : Hid _ := HA
  clear h hc HA
  go_enter Tryz.func58, Tryz.ntmps58
  go_wp2
  go_quiet (fail)
  go_wp2_with (go_at_call 85; refine (HB.out _ (by repeat (first | exact HH.out | refine QM.drew ?_ | refine QM.drewN ?_ _ | refine QM.allo ?_ _))).mono ?_; rintro e w1 ⟨rfl, h1⟩)
  go_end0
  exact ⟨rfl, h1⟩

set_option maxRecDepth 100000 in
set_option maxHeartbeats 1000000 in
theorem do_c11 (w0 w : World) (M KB SB OB UB : Nat) (pv : Value) (S : Flt) (vd C jt jf k : Int) (Post : World → Prop) (h : QM w0 w M KB SB OB UB pv S false vd) (hc : (kd C).cls = 11)
    (HA : ∀ w', QM w0 w' M KB SB OB UB pv S false vd → Calls Tryz.prog 86 #[.pointer (some ⟨M, 0, none⟩), .agg #[.int .i64 C, .int .i64 jt, .int .i64 jf, .int .i64 k]] w' fun e w'' => e = .returned (.tuple #[]) ∧ Post w'') :
    Calls Tryz.prog 58 #[.pointer (some ⟨M, 0, none⟩), .agg #[.int .i64 C, .int .i64 jt, .int .i64 jf, .int .i64 k]] w fun e w' => e = .returned (.tuple #[]) ∧ Post w' := by
  obtain ⟨c0, c1, c2, c3, c4, c5, c6, c7, c8, c9⟩ := h.cells
  have lM := h.m.lt
  have HH : Hid (QM w0 w M KB SB OB UB pv S false vd) := h
  have hl : ∀ d, (Instr.lookup 92 (.map (some KB)) (.int .i64 C) false).run Tryz.prog ((w.alloc (.cells #[.int .i64 C, .int .i64 jt, .int .i64 jf, .int .i64 k] 51)).drewN d) = .ok (.int .i64 11) ((w.alloc (.cells #[.int .i64 C, .int .i64 jt, .int .i64 jf, .int .i64 k] 51)).drewN d) := fun d => look_kd ((h.allo _).drewN d).ik hc
  have hl0 := hl 0
  have HB : Hid _ := HA
  clear h hc HA
  go_enter Tryz.func58, Tryz.ntmps58
  go_wp2
  go_quiet (fail)
  go_wp2_with (go_at_call 86; refine (HB.out _ (by repeat (first | exact HH.out | refine QM.drew ?_ | refine QM.drewN ?_ _ | refine QM.allo ?_ _))).mono ?_; rintro e w1 ⟨rfl, h1⟩)
  go_end0
  exact ⟨rfl, h1⟩

end Go.Proofs.YtgmimakoliifdaaGreatDoor
