import Derived.Test.YthbcfepbkkbjiaaGreatDoorIRB
import Derived.Test.YthbcfepbkkbjiaaGreatDoorIRC
import Derived.Test.YthbcfepbkkbjiaaGreatDoorIRD
import Derived.Test.YthbcfepbkkbjiaaGreatDoorIRF
import Derived.Test.YthbcfepbkkbjiaaGreatDoorIRG
import Derived.Test.YthbcfepbkkbjiaaGreatDoorIRH
import Derived.Test.YthbcfepbkkbjiaaGreatDoorIRI
import Derived.Test.YthbcfepbkkbjiaaGreatDoorIRJ
import Derived.Test.YthbcfepbkkbjiaaGreatDoorIRK
set_option linter.unusedSimpArgs false
set_option linter.unusedVariables false
set_option maxRecDepth 100000
namespace Go.Proofs.YthbcfepbkkbjiaaGreatDoor
open Go.RowKit
set_option maxHeartbeats 1000000 in
theorem do_c1 (w0 w:World) (M KB SB OB UB:Nat) (pv:Value) (S:Flt) (vd C jt jf k:Int) (Post:World→Prop) (h:QM w0 w M KB SB OB UB pv S false vd) (hc:(kd C).cls=1)
  (HA:∀ w',QM w0 w' M KB SB OB UB pv S false vd→Calls Tryz.prog 105 #[.pointer (some ⟨M,0,none⟩),.agg #[.int .i64 C,.int .i64 jt,.int .i64 jf,.int .i64 k]] w' fun e w''=>e=.returned (.tuple #[])∧Post w'') :
  Calls Tryz.prog 74 #[.pointer (some ⟨M,0,none⟩),.agg #[.int .i64 C,.int .i64 jt,.int .i64 jf,.int .i64 k]] w fun e w'=>e=.returned (.tuple #[])∧Post w':=by
 obtain ⟨c0,c1,c2,c3,c4,c5,c6,c7,c8,c9⟩:=h.cells
 have lM:=h.m.lt
 have HH:Hid (QM w0 w M KB SB OB UB pv S false vd):=h
 have hl:∀ d,(Instr.lookup 123 (.map (some KB)) (.int .i64 C) false).run Tryz.prog ((w.alloc (.cells #[.int .i64 C,.int .i64 jt,.int .i64 jf,.int .i64 k] 63)).drewN d)=.ok (.int .i64 1) ((w.alloc (.cells #[.int .i64 C,.int .i64 jt,.int .i64 jf,.int .i64 k] 63)).drewN d):=fun d=>look_kd ((h.allo _).drewN d).ik hc
 have hl0:=hl 0
 have HB:Hid _:=HA
 clear h hc HA
 go_enter Tryz.func74,Tryz.ntmps74
 go_wp2
 go_quiet (fail)
 go_wp2_with (go_at_call 105;refine (HB.out _ (by repeat (first | exact HH.out | refine QM.drew ?_ | refine QM.drewN ?_ _ | refine QM.allo ?_ _))).mono ?_;rintro e w1 ⟨rfl,h1⟩)
 go_end0
 exact ⟨rfl,h1⟩
set_option maxHeartbeats 1000000 in
theorem do_c2 (w0 w:World) (M KB SB OB UB:Nat) (pv:Value) (S:Flt) (vd C jt jf k:Int) (Post:World→Prop) (h:QM w0 w M KB SB OB UB pv S false vd) (hc:(kd C).cls=2)
  (HA:∀ w',QM w0 w' M KB SB OB UB pv S false vd→Calls Tryz.prog 106 #[.pointer (some ⟨M,0,none⟩),.agg #[.int .i64 C,.int .i64 jt,.int .i64 jf,.int .i64 k]] w' fun e w''=>e=.returned (.tuple #[])∧Post w'') :
  Calls Tryz.prog 74 #[.pointer (some ⟨M,0,none⟩),.agg #[.int .i64 C,.int .i64 jt,.int .i64 jf,.int .i64 k]] w fun e w'=>e=.returned (.tuple #[])∧Post w':=by
 obtain ⟨c0,c1,c2,c3,c4,c5,c6,c7,c8,c9⟩:=h.cells
 have lM:=h.m.lt
 have HH:Hid (QM w0 w M KB SB OB UB pv S false vd):=h
 have hl:∀ d,(Instr.lookup 123 (.map (some KB)) (.int .i64 C) false).run Tryz.prog ((w.alloc (.cells #[.int .i64 C,.int .i64 jt,.int .i64 jf,.int .i64 k] 63)).drewN d)=.ok (.int .i64 2) ((w.alloc (.cells #[.int .i64 C,.int .i64 jt,.int .i64 jf,.int .i64 k] 63)).drewN d):=fun d=>look_kd ((h.allo _).drewN d).ik hc
 have hl0:=hl 0
 have HB:Hid _:=HA
 clear h hc HA
 go_enter Tryz.func74,Tryz.ntmps74
 go_wp2
 go_quiet (fail)
 go_wp2_with (go_at_call 106;refine (HB.out _ (by repeat (first | exact HH.out | refine QM.drew ?_ | refine QM.drewN ?_ _ | refine QM.allo ?_ _))).mono ?_;rintro e w1 ⟨rfl,h1⟩)
 go_end0
 exact ⟨rfl,h1⟩
set_option maxHeartbeats 1000000 in
theorem do_c3 (w0 w:World) (M KB SB OB UB:Nat) (pv:Value) (S:Flt) (vd C jt jf k:Int) (Post:World→Prop) (h:QM w0 w M KB SB OB UB pv S false vd) (hc:(kd C).cls=3)
  (HA:∀ w',QM w0 w' M KB SB OB UB pv S false vd→Calls Tryz.prog 106 #[.pointer (some ⟨M,0,none⟩),.agg #[.int .i64 C,.int .i64 jt,.int .i64 jf,.int .i64 k]] w' fun e w''=>e=.returned (.tuple #[])∧Post w'') :
  Calls Tryz.prog 74 #[.pointer (some ⟨M,0,none⟩),.agg #[.int .i64 C,.int .i64 jt,.int .i64 jf,.int .i64 k]] w fun e w'=>e=.returned (.tuple #[])∧Post w':=by
 obtain ⟨c0,c1,c2,c3,c4,c5,c6,c7,c8,c9⟩:=h.cells
 have lM:=h.m.lt
 have HH:Hid (QM w0 w M KB SB OB UB pv S false vd):=h
 have hl:∀ d,(Instr.lookup 123 (.map (some KB)) (.int .i64 C) false).run Tryz.prog ((w.alloc (.cells #[.int .i64 C,.int .i64 jt,.int .i64 jf,.int .i64 k] 63)).drewN d)=.ok (.int .i64 3) ((w.alloc (.cells #[.int .i64 C,.int .i64 jt,.int .i64 jf,.int .i64 k] 63)).drewN d):=fun d=>look_kd ((h.allo _).drewN d).ik hc
 have hl0:=hl 0
 have HB:Hid _:=HA
 clear h hc HA
 go_enter Tryz.func74,Tryz.ntmps74
 go_wp2
 go_quiet (fail)
 go_wp2_with (go_at_call 106;refine (HB.out _ (by repeat (first | exact HH.out | refine QM.drew ?_ | refine QM.drewN ?_ _ | refine QM.allo ?_ _))).mono ?_;rintro e w1 ⟨rfl,h1⟩)
 go_end0
 exact ⟨rfl,h1⟩
set_option maxHeartbeats 1000000 in
theorem do_c4 (w0 w:World) (M KB SB OB UB:Nat) (pv:Value) (S:Flt) (vd C jt jf k:Int) (Post:World→Prop) (h:QM w0 w M KB SB OB UB pv S false vd) (hc:(kd C).cls=4)
  (HA:∀ w',QM w0 w' M KB SB OB UB pv S false vd→Calls Tryz.prog 107 #[.pointer (some ⟨M,0,none⟩),.agg #[.int .i64 C,.int .i64 jt,.int .i64 jf,.int .i64 k]] w' fun e w''=>e=.returned (.tuple #[])∧Post w'') :
  Calls Tryz.prog 74 #[.pointer (some ⟨M,0,none⟩),.agg #[.int .i64 C,.int .i64 jt,.int .i64 jf,.int .i64 k]] w fun e w'=>e=.returned (.tuple #[])∧Post w':=by
 obtain ⟨c0,c1,c2,c3,c4,c5,c6,c7,c8,c9⟩:=h.cells
 have lM:=h.m.lt
 have HH:Hid (QM w0 w M KB SB OB UB pv S false vd):=h
 have hl:∀ d,(Instr.lookup 123 (.map (some KB)) (.int .i64 C) false).run Tryz.prog ((w.alloc (.cells #[.int .i64 C,.int .i64 jt,.int .i64 jf,.int .i64 k] 63)).drewN d)=.ok (.int .i64 4) ((w.alloc (.cells #[.int .i64 C,.int .i64 jt,.int .i64 jf,.int .i64 k] 63)).drewN d):=fun d=>look_kd ((h.allo _).drewN d).ik hc
 have hl0:=hl 0
 have HB:Hid _:=HA
 clear h hc HA
 go_enter Tryz.func74,Tryz.ntmps74
 go_wp2
 go_quiet (fail)
 go_wp2_with (go_at_call 107;refine (HB.out _ (by repeat (first | exact HH.out | refine QM.drew ?_ | refine QM.drewN ?_ _ | refine QM.allo ?_ _))).mono ?_;rintro e w1 ⟨rfl,h1⟩)
 go_end0
 exact ⟨rfl,h1⟩
set_option maxHeartbeats 1000000 in
theorem do_c5 (w0 w:World) (M KB SB OB UB:Nat) (pv:Value) (S:Flt) (vd C jt jf k:Int) (Post:World→Prop) (h:QM w0 w M KB SB OB UB pv S false vd) (hc:(kd C).cls=5)
  (HA:∀ w',QM w0 w' M KB SB OB UB pv S false vd→Calls Tryz.prog 107 #[.pointer (some ⟨M,0,none⟩),.agg #[.int .i64 C,.int .i64 jt,.int .i64 jf,.int .i64 k]] w' fun e w''=>e=.returned (.tuple #[])∧Post w'') :
  Calls Tryz.prog 74 #[.pointer (some ⟨M,0,none⟩),.agg #[.int .i64 C,.int .i64 jt,.int .i64 jf,.int .i64 k]] w fun e w'=>e=.returned (.tuple #[])∧Post w':=by
 obtain ⟨c0,c1,c2,c3,c4,c5,c6,c7,c8,c9⟩:=h.cells
 have lM:=h.m.lt
 have HH:Hid (QM w0 w M KB SB OB UB pv S false vd):=h
 have hl:∀ d,(Instr.lookup 123 (.map (some KB)) (.int .i64 C) false).run Tryz.prog ((w.alloc (.cells #[.int .i64 C,.int .i64 jt,.int .i64 jf,.int .i64 k] 63)).drewN d)=.ok (.int .i64 5) ((w.alloc (.cells #[.int .i64 C,.int .i64 jt,.int .i64 jf,.int .i64 k] 63)).drewN d):=fun d=>look_kd ((h.allo _).drewN d).ik hc
 have hl0:=hl 0
 have HB:Hid _:=HA
 clear h hc HA
 go_enter Tryz.func74,Tryz.ntmps74
 go_wp2
 go_quiet (fail)
 go_wp2_with (go_at_call 107;refine (HB.out _ (by repeat (first | exact HH.out | refine QM.drew ?_ | refine QM.drewN ?_ _ | refine QM.allo ?_ _))).mono ?_;rintro e w1 ⟨rfl,h1⟩)
 go_end0
 exact ⟨rfl,h1⟩
set_option maxHeartbeats 1000000 in
theorem do_c6 (w0 w:World) (M KB SB OB UB:Nat) (pv:Value) (S:Flt) (vd C jt jf k:Int) (Post:World→Prop) (h:QM w0 w M KB SB OB UB pv S false vd) (hc:(kd C).cls=6)
  (HA:∀ w',QM w0 w' M KB SB OB UB pv S false vd→Calls Tryz.prog 108 #[.pointer (some ⟨M,0,none⟩),.agg #[.int .i64 C,.int .i64 jt,.int .i64 jf,.int .i64 k]] w' fun e w''=>e=.returned (.tuple #[])∧Post w'') :
  Calls Tryz.prog 74 #[.pointer (some ⟨M,0,none⟩),.agg #[.int .i64 C,.int .i64 jt,.int .i64 jf,.int .i64 k]] w fun e w'=>e=.returned (.tuple #[])∧Post w':=by
 obtain ⟨c0,c1,c2,c3,c4,c5,c6,c7,c8,c9⟩:=h.cells
 have lM:=h.m.lt
 have HH:Hid (QM w0 w M KB SB OB UB pv S false vd):=h
 have hl:∀ d,(Instr.lookup 123 (.map (some KB)) (.int .i64 C) false).run Tryz.prog ((w.alloc (.cells #[.int .i64 C,.int .i64 jt,.int .i64 jf,.int .i64 k] 63)).drewN d)=.ok (.int .i64 6) ((w.alloc (.cells #[.int .i64 C,.int .i64 jt,.int .i64 jf,.int .i64 k] 63)).drewN d):=fun d=>look_kd ((h.allo _).drewN d).ik hc
 have hl0:=hl 0
 have HB:Hid _:=HA
 clear h hc HA
 go_enter Tryz.func74,Tryz.ntmps74
 go_wp2
 go_quiet (fail)
 go_wp2_with (go_at_call 108;refine (HB.out _ (by repeat (first | exact HH.out | refine QM.drew ?_ | refine QM.drewN ?_ _ | refine QM.allo ?_ _))).mono ?_;rintro e w1 ⟨rfl,h1⟩)
 go_end0
 exact ⟨rfl,h1⟩
set_option maxHeartbeats 1000000 in
theorem do_c7 (w0 w:World) (M KB SB OB UB:Nat) (pv:Value) (S:Flt) (vd C jt jf k:Int) (Post:World→Prop) (h:QM w0 w M KB SB OB UB pv S false vd) (hc:(kd C).cls=7)
  (HA:∀ w',QM w0 w' M KB SB OB UB pv S false vd→Calls Tryz.prog 108 #[.pointer (some ⟨M,0,none⟩),.agg #[.int .i64 C,.int .i64 jt,.int .i64 jf,.int .i64 k]] w' fun e w''=>e=.returned (.tuple #[])∧Post w'') :
  Calls Tryz.prog 74 #[.pointer (some ⟨M,0,none⟩),.agg #[.int .i64 C,.int .i64 jt,.int .i64 jf,.int .i64 k]] w fun e w'=>e=.returned (.tuple #[])∧Post w':=by
 obtain ⟨c0,c1,c2,c3,c4,c5,c6,c7,c8,c9⟩:=h.cells
 have lM:=h.m.lt
 have HH:Hid (QM w0 w M KB SB OB UB pv S false vd):=h
 have hl:∀ d,(Instr.lookup 123 (.map (some KB)) (.int .i64 C) false).run Tryz.prog ((w.alloc (.cells #[.int .i64 C,.int .i64 jt,.int .i64 jf,.int .i64 k] 63)).drewN d)=.ok (.int .i64 7) ((w.alloc (.cells #[.int .i64 C,.int .i64 jt,.int .i64 jf,.int .i64 k] 63)).drewN d):=fun d=>look_kd ((h.allo _).drewN d).ik hc
 have hl0:=hl 0
 have HB:Hid _:=HA
 clear h hc HA
 go_enter Tryz.func74,Tryz.ntmps74
 go_wp2
 go_quiet (fail)
 go_wp2_with (go_at_call 108;refine (HB.out _ (by repeat (first | exact HH.out | refine QM.drew ?_ | refine QM.drewN ?_ _ | refine QM.allo ?_ _))).mono ?_;rintro e w1 ⟨rfl,h1⟩)
 go_end0
 exact ⟨rfl,h1⟩
set_option maxHeartbeats 1000000 in
theorem do_c8 (w0 w:World) (M KB SB OB UB:Nat) (pv:Value) (S:Flt) (vd C jt jf k:Int) (Post:World→Prop) (h:QM w0 w M KB SB OB UB pv S false vd) (hc:(kd C).cls=8)
  (HA:∀ w',QM w0 w' M KB SB OB UB pv S false vd→Calls Tryz.prog 108 #[.pointer (some ⟨M,0,none⟩),.agg #[.int .i64 C,.int .i64 jt,.int .i64 jf,.int .i64 k]] w' fun e w''=>e=.returned (.tuple #[])∧Post w'') :
  Calls Tryz.prog 74 #[.pointer (some ⟨M,0,none⟩),.agg #[.int .i64 C,.int .i64 jt,.int .i64 jf,.int .i64 k]] w fun e w'=>e=.returned (.tuple #[])∧Post w':=by
 obtain ⟨c0,c1,c2,c3,c4,c5,c6,c7,c8,c9⟩:=h.cells
 have lM:=h.m.lt
 have HH:Hid (QM w0 w M KB SB OB UB pv S false vd):=h
 have hl:∀ d,(Instr.lookup 123 (.map (some KB)) (.int .i64 C) false).run Tryz.prog ((w.alloc (.cells #[.int .i64 C,.int .i64 jt,.int .i64 jf,.int .i64 k] 63)).drewN d)=.ok (.int .i64 8) ((w.alloc (.cells #[.int .i64 C,.int .i64 jt,.int .i64 jf,.int .i64 k] 63)).drewN d):=fun d=>look_kd ((h.allo _).drewN d).ik hc
 have hl0:=hl 0
 have HB:Hid _:=HA
 clear h hc HA
 go_enter Tryz.func74,Tryz.ntmps74
 go_wp2
 go_quiet (fail)
 go_wp2_with (go_at_call 108;refine (HB.out _ (by repeat (first | exact HH.out | refine QM.drew ?_ | refine QM.drewN ?_ _ | refine QM.allo ?_ _))).mono ?_;rintro e w1 ⟨rfl,h1⟩)
 go_end0
 exact ⟨rfl,h1⟩
set_option maxHeartbeats 1000000 in
theorem do_c9 (w0 w:World) (M KB SB OB UB:Nat) (pv:Value) (S:Flt) (vd C jt jf k:Int) (Post:World→Prop) (h:QM w0 w M KB SB OB UB pv S false vd) (hc:(kd C).cls=9)
  (HA:∀ w',QM w0 w' M KB SB OB UB pv S false vd→Calls Tryz.prog 109 #[.pointer (some ⟨M,0,none⟩),.agg #[.int .i64 C,.int .i64 jt,.int .i64 jf,.int .i64 k]] w' fun e w''=>e=.returned (.tuple #[])∧Post w'') :
  Calls Tryz.prog 74 #[.pointer (some ⟨M,0,none⟩),.agg #[.int .i64 C,.int .i64 jt,.int .i64 jf,.int .i64 k]] w fun e w'=>e=.returned (.tuple #[])∧Post w':=by
 obtain ⟨c0,c1,c2,c3,c4,c5,c6,c7,c8,c9⟩:=h.cells
 have lM:=h.m.lt
 have HH:Hid (QM w0 w M KB SB OB UB pv S false vd):=h
 have hl:∀ d,(Instr.lookup 123 (.map (some KB)) (.int .i64 C) false).run Tryz.prog ((w.alloc (.cells #[.int .i64 C,.int .i64 jt,.int .i64 jf,.int .i64 k] 63)).drewN d)=.ok (.int .i64 9) ((w.alloc (.cells #[.int .i64 C,.int .i64 jt,.int .i64 jf,.int .i64 k] 63)).drewN d):=fun d=>look_kd ((h.allo _).drewN d).ik hc
 have hl0:=hl 0
 have HB:Hid _:=HA
 clear h hc HA
 go_enter Tryz.func74,Tryz.ntmps74
 go_wp2
 go_quiet (fail)
 go_wp2_with (go_at_call 109;refine (HB.out _ (by repeat (first | exact HH.out | refine QM.drew ?_ | refine QM.drewN ?_ _ | refine QM.allo ?_ _))).mono ?_;rintro e w1 ⟨rfl,h1⟩)
 go_end0
 exact ⟨rfl,h1⟩
set_option maxHeartbeats 1000000 in
theorem do_c10 (w0 w:World) (M KB SB OB UB:Nat) (pv:Value) (S:Flt) (vd C jt jf k:Int) (Post:World→Prop) (h:QM w0 w M KB SB OB UB pv S false vd) (hc:(kd C).cls=10)
  (HA:∀ w',QM w0 w' M KB SB OB UB pv S false vd→Calls Tryz.prog 109 #[.pointer (some ⟨M,0,none⟩),.agg #[.int .i64 C,.int .i64 jt,.int .i64 jf,.int .i64 k]] w' fun e w''=>e=.returned (.tuple #[])∧Post w'') :
  Calls Tryz.prog 74 #[.pointer (some ⟨M,0,none⟩),.agg #[.int .i64 C,.int .i64 jt,.int .i64 jf,.int .i64 k]] w fun e w'=>e=.returned (.tuple #[])∧Post w':=by
 obtain ⟨c0,c1,c2,c3,c4,c5,c6,c7,c8,c9⟩:=h.cells
 have lM:=h.m.lt
 have HH:Hid (QM w0 w M KB SB OB UB pv S false vd):=h
 have hl:∀ d,(Instr.lookup 123 (.map (some KB)) (.int .i64 C) false).run Tryz.prog ((w.alloc (.cells #[.int .i64 C,.int .i64 jt,.int .i64 jf,.int .i64 k] 63)).drewN d)=.ok (.int .i64 10) ((w.alloc (.cells #[.int .i64 C,.int .i64 jt,.int .i64 jf,.int .i64 k] 63)).drewN d):=fun d=>look_kd ((h.allo _).drewN d).ik hc
 have hl0:=hl 0
 have HB:Hid _:=HA
 clear h hc HA
 go_enter Tryz.func74,Tryz.ntmps74
 go_wp2
 go_quiet (fail)
 go_wp2_with (go_at_call 109;refine (HB.out _ (by repeat (first | exact HH.out | refine QM.drew ?_ | refine QM.drewN ?_ _ | refine QM.allo ?_ _))).mono ?_;rintro e w1 ⟨rfl,h1⟩)
 go_end0
 exact ⟨rfl,h1⟩
set_option maxHeartbeats 1000000 in
theorem do_c11 (w0 w:World) (M KB SB OB UB:Nat) (pv:Value) (S:Flt) (vd C jt jf k:Int) (Post:World→Prop) (h:QM w0 w M KB SB OB UB pv S false vd) (hc:(kd C).cls=11)
  (HA:∀ w',QM w0 w' M KB SB OB UB pv S false vd→Calls Tryz.prog 110 #[.pointer (some ⟨M,0,none⟩),.agg #[.int .i64 C,.int .i64 jt,.int .i64 jf,.int .i64 k]] w' fun e w''=>e=.returned (.tuple #[])∧Post w'') :
  Calls Tryz.prog 74 #[.pointer (some ⟨M,0,none⟩),.agg #[.int .i64 C,.int .i64 jt,.int .i64 jf,.int .i64 k]] w fun e w'=>e=.returned (.tuple #[])∧Post w':=by
 obtain ⟨c0,c1,c2,c3,c4,c5,c6,c7,c8,c9⟩:=h.cells
 have lM:=h.m.lt
 have HH:Hid (QM w0 w M KB SB OB UB pv S false vd):=h
 have hl:∀ d,(Instr.lookup 123 (.map (some KB)) (.int .i64 C) false).run Tryz.prog ((w.alloc (.cells #[.int .i64 C,.int .i64 jt,.int .i64 jf,.int .i64 k] 63)).drewN d)=.ok (.int .i64 11) ((w.alloc (.cells #[.int .i64 C,.int .i64 jt,.int .i64 jf,.int .i64 k] 63)).drewN d):=fun d=>look_kd ((h.allo _).drewN d).ik hc
 have hl0:=hl 0
 have HB:Hid _:=HA
 clear h hc HA
 go_enter Tryz.func74,Tryz.ntmps74
 go_wp2
 go_quiet (fail)
 go_wp2_with (go_at_call 110;refine (HB.out _ (by repeat (first | exact HH.out | refine QM.drew ?_ | refine QM.drewN ?_ _ | refine QM.allo ?_ _))).mono ?_;rintro e w1 ⟨rfl,h1⟩)
 go_end0
 exact ⟨rfl,h1⟩
end Go.Proofs.YthbcfepbkkbjiaaGreatDoor
namespace Go.Proofs.YthbcfepbkkbjiaaGreatDoor
open Go.RowKit
def fl (r:KR) (jt jf k:Int) (p:Nat→Int) (m:Nat) (S:Flt):Fres :=
 let y:=if r.x=true then S.x else k
 if r.kind=1 then
  if ((if r.x=true then k+S.x else k)).toNat+r.n.toNat≤m then ⟨⟨S.pc+1,be p ((if r.x=true then k+S.x else k)).toNat r.n.toNat,S.x,S.cs⟩,0,false⟩ else ⟨S,0,true⟩
 else if r.kind=5 then
  if k.toNat+1≤m then ⟨⟨S.pc+1,S.a,p k.toNat%16*4,S.cs⟩,0,false⟩ else ⟨S,0,true⟩
 else if r.kind=2 then if r.x=true then ⟨⟨S.pc+1,S.a,k,S.cs⟩,0,false⟩ else ⟨⟨S.pc+1,k,S.x,S.cs⟩,0,false⟩
 else if r.kind=3 then if r.x=true then ⟨⟨S.pc+1,S.a,S.cs k.toNat,S.cs⟩,0,false⟩ else ⟨⟨S.pc+1,S.cs k.toNat,S.x,S.cs⟩,0,false⟩
 else if r.kind=4 then if r.x=true then ⟨⟨S.pc+1,S.a,m,S.cs⟩,0,false⟩ else ⟨⟨S.pc+1,m,S.x,S.cs⟩,0,false⟩
 else if r.kind=6 then ⟨⟨S.pc+1,S.a,S.x,upd S.cs k.toNat (if r.x=true then S.x else S.a)⟩,0,false⟩
 else if r.kind=7 then if r.x=true then ⟨⟨S.pc+1,S.a,S.a,S.cs⟩,0,false⟩ else ⟨⟨S.pc+1,S.x,S.x,S.cs⟩,0,false⟩
 else if r.kind=8 then if div0 r.o y=true then ⟨S,0,true⟩ else ⟨⟨S.pc+1,opr r.o S.a y,S.x,S.cs⟩,0,false⟩
 else if r.kind=9 then ⟨⟨S.pc+1,(-S.a)%4294967296,S.x,S.cs⟩,0,false⟩
 else if r.kind=10 then ⟨⟨S.pc+1+k.toNat,S.a,S.x,S.cs⟩,0,false⟩
 else if r.kind=11 then ⟨⟨S.pc+1+(if askv r.o S.a y=true then jt.toNat else jf.toNat),S.a,S.x,S.cs⟩,0,false⟩
 else ⟨S,if r.x=true then S.a else k,true⟩
theorem flt_fl (q p:Nat→Int) (m:Nat) (S:Flt):flt q p m S=fl (kd (q (4*S.pc))) (q (4*S.pc+1)) (q (4*S.pc+2)) (q (4*S.pc+3)) p m S:=rfl
theorem okk_cases {C:Int} (h:okk C=true):C=32∨C=40∨C=48∨C=64∨C=72∨C=80∨C=0∨C=1∨C=96∨C=97∨C=128∨C=129∨C=177∨C=2∨C=3∨C=7∨C=135∨C=132∨C=5∨C=6∨C=22∨C=4∨C=20∨C=36∨C=52∨C=148∨C=68∨C=84∨C=164∨C=100∨C=116∨C=12∨C=28∨C=44∨C=60∨C=156∨C=76∨C=92∨C=172∨C=108∨C=124∨C=21∨C=37∨C=53∨C=69∨C=29∨C=45∨C=61∨C=77:=by
 have hc:=kd_code C
 have:(kd C) ∈ tab:=by
  unfold okk at h
  unfold kd at *
  cases e:look C with
  | none=>rw [e] at h;cases h
  | some r=>exact List.mem_of_find?_eq_some e
 generalize kd C=r at *
 simp only [tab,List.mem_cons,List.not_mem_nil,or_false] at this
 rcases this with rfl | rfl | rfl | rfl | rfl | rfl | rfl | rfl | rfl | rfl | rfl | rfl | rfl | rfl | rfl | rfl | rfl | rfl | rfl | rfl | rfl | rfl | rfl | rfl | rfl | rfl | rfl | rfl | rfl | rfl | rfl | rfl | rfl | rfl | rfl | rfl | rfl | rfl | rfl | rfl | rfl | rfl | rfl | rfl | rfl | rfl | rfl | rfl | rfl <;> (subst hc;decide)
def DPost (w0 w':World) (M KB SB OB UB:Nat) (pv:Value) (vd:Int) (R:Fres):Prop :=
 (R.done=true∧∃ S',QM w0 w' M KB SB OB UB pv S' true R.v)∨(R.done=false∧QM w0 w' M KB SB OB UB pv R.S false vd)
theorem DPost.go {w0 w':World} {M KB SB OB UB:Nat} {pv:Value} {vd:Int} {R:Fres} {S:Flt} (hE:R=⟨S,0,false⟩) (h:QM w0 w' M KB SB OB UB pv S false vd):DPost w0 w' M KB SB OB UB pv vd R:=by
 subst hE;exact Or.inr ⟨rfl,h⟩
theorem DPost.fin {w0 w':World} {M KB SB OB UB:Nat} {pv:Value} {vd:Int} {R:Fres} {S S':Flt} {v:Int} (hE:R=⟨S,v,true⟩) (h:QM w0 w' M KB SB OB UB pv S' true v):DPost w0 w' M KB SB OB UB pv vd R:=by
 subst hE;exact Or.inl ⟨rfl,S',h⟩
theorem df_32 (w0 w:World) (M KB SB OB UB:Nat) (po:Option Addr) (m pcap:Nat) (p:Nat→Int) (pc:Nat) (a x:Int) (cs:Nat→Int) (vd jt jf k:Int) (h:QM w0 w M KB SB OB UB (.slice po m pcap) ⟨pc+1,a,x,cs⟩ false vd) (hm:m≤2000) (hpc:pc+1≤1000) (ua:U32 a) (ux:U32 x) (uk:U32 k) (hmc:m≤pcap) (hp:Oct p) (hsrc:Src w0 .u8 po m p) (hjt:0≤jt∧jt≤4294967295) (hjf:0≤jf∧jf≤4294967295) :
  Calls Tryz.prog 74 #[.pointer (some ⟨M,0,none⟩),.agg #[.int .i64 32,.int .i64 jt,.int .i64 jf,.int .i64 k]] w fun e w'=>e=.returned (.tuple #[])∧DPost w0 w' M KB SB OB UB (.slice po m pcap) vd (fl (kd 32) jt jf k p m ⟨pc,a,x,cs⟩):=by
 by_cases hq:k.toNat+4≤m
 ·exact (do_c1 w0 w M KB SB OB UB _ _ vd 32 jt jf k _ h rfl (fun w' h'=>(ld_32y w0 w' M KB SB OB UB po m pcap p (pc+1) a x cs vd jt jf k h' hm hpc ua ux uk hmc hp hsrc hq).mono fun e w2 h2=>⟨h2.1,.go (by rw [show kd 32=⟨32,1,4,false,0,1⟩ from rfl];simp only [fl,hq,Int.reduceEq,Int.reduceToNat,if_true,if_false,Bool.false_eq_true]) h2.2⟩))
 ·exact (do_c1 w0 w M KB SB OB UB _ _ vd 32 jt jf k _ h rfl (fun w' h'=>(ld_32n w0 w' M KB SB OB UB po m pcap p (pc+1) a x cs vd jt jf k h' hm hpc ua ux uk hq).mono fun e w2 h2=>⟨h2.1,.fin (S:=⟨pc,a,x,cs⟩) (by rw [show kd 32=⟨32,1,4,false,0,1⟩ from rfl];simp only [fl,hq,Int.reduceEq,Int.reduceToNat,if_true,if_false,Bool.false_eq_true]) h2.2⟩))
theorem df_40 (w0 w:World) (M KB SB OB UB:Nat) (po:Option Addr) (m pcap:Nat) (p:Nat→Int) (pc:Nat) (a x:Int) (cs:Nat→Int) (vd jt jf k:Int) (h:QM w0 w M KB SB OB UB (.slice po m pcap) ⟨pc+1,a,x,cs⟩ false vd) (hm:m≤2000) (hpc:pc+1≤1000) (ua:U32 a) (ux:U32 x) (uk:U32 k) (hmc:m≤pcap) (hp:Oct p) (hsrc:Src w0 .u8 po m p) (hjt:0≤jt∧jt≤4294967295) (hjf:0≤jf∧jf≤4294967295) :
  Calls Tryz.prog 74 #[.pointer (some ⟨M,0,none⟩),.agg #[.int .i64 40,.int .i64 jt,.int .i64 jf,.int .i64 k]] w fun e w'=>e=.returned (.tuple #[])∧DPost w0 w' M KB SB OB UB (.slice po m pcap) vd (fl (kd 40) jt jf k p m ⟨pc,a,x,cs⟩):=by
 by_cases hq:k.toNat+2≤m
 ·exact (do_c1 w0 w M KB SB OB UB _ _ vd 40 jt jf k _ h rfl (fun w' h'=>(ld_40y w0 w' M KB SB OB UB po m pcap p (pc+1) a x cs vd jt jf k h' hm hpc ua ux uk hmc hp hsrc hq).mono fun e w2 h2=>⟨h2.1,.go (by rw [show kd 40=⟨40,1,2,false,0,1⟩ from rfl];simp only [fl,hq,Int.reduceEq,Int.reduceToNat,if_true,if_false,Bool.false_eq_true]) h2.2⟩))
 ·exact (do_c1 w0 w M KB SB OB UB _ _ vd 40 jt jf k _ h rfl (fun w' h'=>(ld_40n w0 w' M KB SB OB UB po m pcap p (pc+1) a x cs vd jt jf k h' hm hpc ua ux uk hq).mono fun e w2 h2=>⟨h2.1,.fin (S:=⟨pc,a,x,cs⟩) (by rw [show kd 40=⟨40,1,2,false,0,1⟩ from rfl];simp only [fl,hq,Int.reduceEq,Int.reduceToNat,if_true,if_false,Bool.false_eq_true]) h2.2⟩))
theorem df_48 (w0 w:World) (M KB SB OB UB:Nat) (po:Option Addr) (m pcap:Nat) (p:Nat→Int) (pc:Nat) (a x:Int) (cs:Nat→Int) (vd jt jf k:Int) (h:QM w0 w M KB SB OB UB (.slice po m pcap) ⟨pc+1,a,x,cs⟩ false vd) (hm:m≤2000) (hpc:pc+1≤1000) (ua:U32 a) (ux:U32 x) (uk:U32 k) (hmc:m≤pcap) (hp:Oct p) (hsrc:Src w0 .u8 po m p) (hjt:0≤jt∧jt≤4294967295) (hjf:0≤jf∧jf≤4294967295) :
  Calls Tryz.prog 74 #[.pointer (some ⟨M,0,none⟩),.agg #[.int .i64 48,.int .i64 jt,.int .i64 jf,.int .i64 k]] w fun e w'=>e=.returned (.tuple #[])∧DPost w0 w' M KB SB OB UB (.slice po m pcap) vd (fl (kd 48) jt jf k p m ⟨pc,a,x,cs⟩):=by
 by_cases hq:k.toNat+1≤m
 ·exact (do_c1 w0 w M KB SB OB UB _ _ vd 48 jt jf k _ h rfl (fun w' h'=>(ld_48y w0 w' M KB SB OB UB po m pcap p (pc+1) a x cs vd jt jf k h' hm hpc ua ux uk hmc hp hsrc hq).mono fun e w2 h2=>⟨h2.1,.go (by rw [show kd 48=⟨48,1,1,false,0,1⟩ from rfl];simp only [fl,hq,Int.reduceEq,Int.reduceToNat,if_true,if_false,Bool.false_eq_true]) h2.2⟩))
 ·exact (do_c1 w0 w M KB SB OB UB _ _ vd 48 jt jf k _ h rfl (fun w' h'=>(ld_48n w0 w' M KB SB OB UB po m pcap p (pc+1) a x cs vd jt jf k h' hm hpc ua ux uk hq).mono fun e w2 h2=>⟨h2.1,.fin (S:=⟨pc,a,x,cs⟩) (by rw [show kd 48=⟨48,1,1,false,0,1⟩ from rfl];simp only [fl,hq,Int.reduceEq,Int.reduceToNat,if_true,if_false,Bool.false_eq_true]) h2.2⟩))
theorem df_64 (w0 w:World) (M KB SB OB UB:Nat) (po:Option Addr) (m pcap:Nat) (p:Nat→Int) (pc:Nat) (a x:Int) (cs:Nat→Int) (vd jt jf k:Int) (h:QM w0 w M KB SB OB UB (.slice po m pcap) ⟨pc+1,a,x,cs⟩ false vd) (hm:m≤2000) (hpc:pc+1≤1000) (ua:U32 a) (ux:U32 x) (uk:U32 k) (hmc:m≤pcap) (hp:Oct p) (hsrc:Src w0 .u8 po m p) (hjt:0≤jt∧jt≤4294967295) (hjf:0≤jf∧jf≤4294967295) :
  Calls Tryz.prog 74 #[.pointer (some ⟨M,0,none⟩),.agg #[.int .i64 64,.int .i64 jt,.int .i64 jf,.int .i64 k]] w fun e w'=>e=.returned (.tuple #[])∧DPost w0 w' M KB SB OB UB (.slice po m pcap) vd (fl (kd 64) jt jf k p m ⟨pc,a,x,cs⟩):=by
 by_cases hq:(k+x).toNat+4≤m
 ·exact (do_c1 w0 w M KB SB OB UB _ _ vd 64 jt jf k _ h rfl (fun w' h'=>(ld_64y w0 w' M KB SB OB UB po m pcap p (pc+1) a x cs vd jt jf k h' hm hpc ua ux uk hmc hp hsrc hq).mono fun e w2 h2=>⟨h2.1,.go (by rw [show kd 64=⟨64,1,4,true,0,1⟩ from rfl];simp only [fl,hq,Int.reduceEq,Int.reduceToNat,if_true,if_false,Bool.false_eq_true]) h2.2⟩))
 ·exact (do_c1 w0 w M KB SB OB UB _ _ vd 64 jt jf k _ h rfl (fun w' h'=>(ld_64n w0 w' M KB SB OB UB po m pcap p (pc+1) a x cs vd jt jf k h' hm hpc ua ux uk hq).mono fun e w2 h2=>⟨h2.1,.fin (S:=⟨pc,a,x,cs⟩) (by rw [show kd 64=⟨64,1,4,true,0,1⟩ from rfl];simp only [fl,hq,Int.reduceEq,Int.reduceToNat,if_true,if_false,Bool.false_eq_true]) h2.2⟩))
theorem df_72 (w0 w:World) (M KB SB OB UB:Nat) (po:Option Addr) (m pcap:Nat) (p:Nat→Int) (pc:Nat) (a x:Int) (cs:Nat→Int) (vd jt jf k:Int) (h:QM w0 w M KB SB OB UB (.slice po m pcap) ⟨pc+1,a,x,cs⟩ false vd) (hm:m≤2000) (hpc:pc+1≤1000) (ua:U32 a) (ux:U32 x) (uk:U32 k) (hmc:m≤pcap) (hp:Oct p) (hsrc:Src w0 .u8 po m p) (hjt:0≤jt∧jt≤4294967295) (hjf:0≤jf∧jf≤4294967295) :
  Calls Tryz.prog 74 #[.pointer (some ⟨M,0,none⟩),.agg #[.int .i64 72,.int .i64 jt,.int .i64 jf,.int .i64 k]] w fun e w'=>e=.returned (.tuple #[])∧DPost w0 w' M KB SB OB UB (.slice po m pcap) vd (fl (kd 72) jt jf k p m ⟨pc,a,x,cs⟩):=by
 by_cases hq:(k+x).toNat+2≤m
 ·exact (do_c1 w0 w M KB SB OB UB _ _ vd 72 jt jf k _ h rfl (fun w' h'=>(ld_72y w0 w' M KB SB OB UB po m pcap p (pc+1) a x cs vd jt jf k h' hm hpc ua ux uk hmc hp hsrc hq).mono fun e w2 h2=>⟨h2.1,.go (by rw [show kd 72=⟨72,1,2,true,0,1⟩ from rfl];simp only [fl,hq,Int.reduceEq,Int.reduceToNat,if_true,if_false,Bool.false_eq_true]) h2.2⟩))
 ·exact (do_c1 w0 w M KB SB OB UB _ _ vd 72 jt jf k _ h rfl (fun w' h'=>(ld_72n w0 w' M KB SB OB UB po m pcap p (pc+1) a x cs vd jt jf k h' hm hpc ua ux uk hq).mono fun e w2 h2=>⟨h2.1,.fin (S:=⟨pc,a,x,cs⟩) (by rw [show kd 72=⟨72,1,2,true,0,1⟩ from rfl];simp only [fl,hq,Int.reduceEq,Int.reduceToNat,if_true,if_false,Bool.false_eq_true]) h2.2⟩))
theorem df_80 (w0 w:World) (M KB SB OB UB:Nat) (po:Option Addr) (m pcap:Nat) (p:Nat→Int) (pc:Nat) (a x:Int) (cs:Nat→Int) (vd jt jf k:Int) (h:QM w0 w M KB SB OB UB (.slice po m pcap) ⟨pc+1,a,x,cs⟩ false vd) (hm:m≤2000) (hpc:pc+1≤1000) (ua:U32 a) (ux:U32 x) (uk:U32 k) (hmc:m≤pcap) (hp:Oct p) (hsrc:Src w0 .u8 po m p) (hjt:0≤jt∧jt≤4294967295) (hjf:0≤jf∧jf≤4294967295) :
  Calls Tryz.prog 74 #[.pointer (some ⟨M,0,none⟩),.agg #[.int .i64 80,.int .i64 jt,.int .i64 jf,.int .i64 k]] w fun e w'=>e=.returned (.tuple #[])∧DPost w0 w' M KB SB OB UB (.slice po m pcap) vd (fl (kd 80) jt jf k p m ⟨pc,a,x,cs⟩):=by
 by_cases hq:(k+x).toNat+1≤m
 ·exact (do_c1 w0 w M KB SB OB UB _ _ vd 80 jt jf k _ h rfl (fun w' h'=>(ld_80y w0 w' M KB SB OB UB po m pcap p (pc+1) a x cs vd jt jf k h' hm hpc ua ux uk hmc hp hsrc hq).mono fun e w2 h2=>⟨h2.1,.go (by rw [show kd 80=⟨80,1,1,true,0,1⟩ from rfl];simp only [fl,hq,Int.reduceEq,Int.reduceToNat,if_true,if_false,Bool.false_eq_true]) h2.2⟩))
 ·exact (do_c1 w0 w M KB SB OB UB _ _ vd 80 jt jf k _ h rfl (fun w' h'=>(ld_80n w0 w' M KB SB OB UB po m pcap p (pc+1) a x cs vd jt jf k h' hm hpc ua ux uk hq).mono fun e w2 h2=>⟨h2.1,.fin (S:=⟨pc,a,x,cs⟩) (by rw [show kd 80=⟨80,1,1,true,0,1⟩ from rfl];simp only [fl,hq,Int.reduceEq,Int.reduceToNat,if_true,if_false,Bool.false_eq_true]) h2.2⟩))
theorem df_0 (w0 w:World) (M KB SB OB UB:Nat) (po:Option Addr) (m pcap:Nat) (p:Nat→Int) (pc:Nat) (a x:Int) (cs:Nat→Int) (vd jt jf k:Int) (h:QM w0 w M KB SB OB UB (.slice po m pcap) ⟨pc+1,a,x,cs⟩ false vd) (hm:m≤2000) (hpc:pc+1≤1000) (ua:U32 a) (ux:U32 x) (uk:U32 k) (hmc:m≤pcap) (hp:Oct p) (hsrc:Src w0 .u8 po m p) (hjt:0≤jt∧jt≤4294967295) (hjf:0≤jf∧jf≤4294967295) :
  Calls Tryz.prog 74 #[.pointer (some ⟨M,0,none⟩),.agg #[.int .i64 0,.int .i64 jt,.int .i64 jf,.int .i64 k]] w fun e w'=>e=.returned (.tuple #[])∧DPost w0 w' M KB SB OB UB (.slice po m pcap) vd (fl (kd 0) jt jf k p m ⟨pc,a,x,cs⟩):=by
 exact (do_c2 w0 w M KB SB OB UB _ _ vd 0 jt jf k _ h rfl (fun w' h'=>(tk_0 w0 w' M KB SB OB UB po m pcap p (pc+1) a x cs vd jt jf k h' hm hpc ua ux uk).mono fun e w2 h2=>⟨h2.1,.go (by rw [show kd 0=⟨0,2,0,false,0,2⟩ from rfl];simp only [fl,Int.reduceEq,Int.reduceToNat,if_true,if_false,Bool.false_eq_true]) h2.2⟩))
theorem df_1 (w0 w:World) (M KB SB OB UB:Nat) (po:Option Addr) (m pcap:Nat) (p:Nat→Int) (pc:Nat) (a x:Int) (cs:Nat→Int) (vd jt jf k:Int) (h:QM w0 w M KB SB OB UB (.slice po m pcap) ⟨pc+1,a,x,cs⟩ false vd) (hm:m≤2000) (hpc:pc+1≤1000) (ua:U32 a) (ux:U32 x) (uk:U32 k) (hmc:m≤pcap) (hp:Oct p) (hsrc:Src w0 .u8 po m p) (hjt:0≤jt∧jt≤4294967295) (hjf:0≤jf∧jf≤4294967295) :
  Calls Tryz.prog 74 #[.pointer (some ⟨M,0,none⟩),.agg #[.int .i64 1,.int .i64 jt,.int .i64 jf,.int .i64 k]] w fun e w'=>e=.returned (.tuple #[])∧DPost w0 w' M KB SB OB UB (.slice po m pcap) vd (fl (kd 1) jt jf k p m ⟨pc,a,x,cs⟩):=by
 exact (do_c2 w0 w M KB SB OB UB _ _ vd 1 jt jf k _ h rfl (fun w' h'=>(tk_1 w0 w' M KB SB OB UB po m pcap p (pc+1) a x cs vd jt jf k h' hm hpc ua ux uk).mono fun e w2 h2=>⟨h2.1,.go (by rw [show kd 1=⟨1,2,0,true,0,2⟩ from rfl];simp only [fl,Int.reduceEq,Int.reduceToNat,if_true,if_false,Bool.false_eq_true]) h2.2⟩))
theorem df_96 (w0 w:World) (M KB SB OB UB:Nat) (po:Option Addr) (m pcap:Nat) (p:Nat→Int) (pc:Nat) (a x:Int) (cs:Nat→Int) (vd jt jf k:Int) (h:QM w0 w M KB SB OB UB (.slice po m pcap) ⟨pc+1,a,x,cs⟩ false vd) (hm:m≤2000) (hpc:pc+1≤1000) (ua:U32 a) (ux:U32 x) (uk:U32 k) (hmc:m≤pcap) (hp:Oct p) (hsrc:Src w0 .u8 po m p) (hjt:0≤jt∧jt≤4294967295) (hjf:0≤jf∧jf≤4294967295) (k16:k<16) :
  Calls Tryz.prog 74 #[.pointer (some ⟨M,0,none⟩),.agg #[.int .i64 96,.int .i64 jt,.int .i64 jf,.int .i64 k]] w fun e w'=>e=.returned (.tuple #[])∧DPost w0 w' M KB SB OB UB (.slice po m pcap) vd (fl (kd 96) jt jf k p m ⟨pc,a,x,cs⟩):=by
 exact (do_c3 w0 w M KB SB OB UB _ _ vd 96 jt jf k _ h rfl (fun w' h'=>(tk_96 w0 w' M KB SB OB UB po m pcap p (pc+1) a x cs vd jt jf k h' hm hpc ua ux uk k16).mono fun e w2 h2=>⟨h2.1,.go (by rw [show kd 96=⟨96,3,0,false,0,3⟩ from rfl];simp only [fl,Int.reduceEq,Int.reduceToNat,if_true,if_false,Bool.false_eq_true]) h2.2⟩))
theorem df_97 (w0 w:World) (M KB SB OB UB:Nat) (po:Option Addr) (m pcap:Nat) (p:Nat→Int) (pc:Nat) (a x:Int) (cs:Nat→Int) (vd jt jf k:Int) (h:QM w0 w M KB SB OB UB (.slice po m pcap) ⟨pc+1,a,x,cs⟩ false vd) (hm:m≤2000) (hpc:pc+1≤1000) (ua:U32 a) (ux:U32 x) (uk:U32 k) (hmc:m≤pcap) (hp:Oct p) (hsrc:Src w0 .u8 po m p) (hjt:0≤jt∧jt≤4294967295) (hjf:0≤jf∧jf≤4294967295) (k16:k<16) :
  Calls Tryz.prog 74 #[.pointer (some ⟨M,0,none⟩),.agg #[.int .i64 97,.int .i64 jt,.int .i64 jf,.int .i64 k]] w fun e w'=>e=.returned (.tuple #[])∧DPost w0 w' M KB SB OB UB (.slice po m pcap) vd (fl (kd 97) jt jf k p m ⟨pc,a,x,cs⟩):=by
 exact (do_c3 w0 w M KB SB OB UB _ _ vd 97 jt jf k _ h rfl (fun w' h'=>(tk_97 w0 w' M KB SB OB UB po m pcap p (pc+1) a x cs vd jt jf k h' hm hpc ua ux uk k16).mono fun e w2 h2=>⟨h2.1,.go (by rw [show kd 97=⟨97,3,0,true,0,3⟩ from rfl];simp only [fl,Int.reduceEq,Int.reduceToNat,if_true,if_false,Bool.false_eq_true]) h2.2⟩))
theorem df_128 (w0 w:World) (M KB SB OB UB:Nat) (po:Option Addr) (m pcap:Nat) (p:Nat→Int) (pc:Nat) (a x:Int) (cs:Nat→Int) (vd jt jf k:Int) (h:QM w0 w M KB SB OB UB (.slice po m pcap) ⟨pc+1,a,x,cs⟩ false vd) (hm:m≤2000) (hpc:pc+1≤1000) (ua:U32 a) (ux:U32 x) (uk:U32 k) (hmc:m≤pcap) (hp:Oct p) (hsrc:Src w0 .u8 po m p) (hjt:0≤jt∧jt≤4294967295) (hjf:0≤jf∧jf≤4294967295) :
  Calls Tryz.prog 74 #[.pointer (some ⟨M,0,none⟩),.agg #[.int .i64 128,.int .i64 jt,.int .i64 jf,.int .i64 k]] w fun e w'=>e=.returned (.tuple #[])∧DPost w0 w' M KB SB OB UB (.slice po m pcap) vd (fl (kd 128) jt jf k p m ⟨pc,a,x,cs⟩):=by
 exact (do_c2 w0 w M KB SB OB UB _ _ vd 128 jt jf k _ h rfl (fun w' h'=>(tk_128 w0 w' M KB SB OB UB po m pcap p (pc+1) a x cs vd jt jf k h' hm hpc ua ux uk).mono fun e w2 h2=>⟨h2.1,.go (by rw [show kd 128=⟨128,4,0,false,0,2⟩ from rfl];simp only [fl,Int.reduceEq,Int.reduceToNat,if_true,if_false,Bool.false_eq_true]) h2.2⟩))
theorem df_129 (w0 w:World) (M KB SB OB UB:Nat) (po:Option Addr) (m pcap:Nat) (p:Nat→Int) (pc:Nat) (a x:Int) (cs:Nat→Int) (vd jt jf k:Int) (h:QM w0 w M KB SB OB UB (.slice po m pcap) ⟨pc+1,a,x,cs⟩ false vd) (hm:m≤2000) (hpc:pc+1≤1000) (ua:U32 a) (ux:U32 x) (uk:U32 k) (hmc:m≤pcap) (hp:Oct p) (hsrc:Src w0 .u8 po m p) (hjt:0≤jt∧jt≤4294967295) (hjf:0≤jf∧jf≤4294967295) :
  Calls Tryz.prog 74 #[.pointer (some ⟨M,0,none⟩),.agg #[.int .i64 129,.int .i64 jt,.int .i64 jf,.int .i64 k]] w fun e w'=>e=.returned (.tuple #[])∧DPost w0 w' M KB SB OB UB (.slice po m pcap) vd (fl (kd 129) jt jf k p m ⟨pc,a,x,cs⟩):=by
 exact (do_c2 w0 w M KB SB OB UB _ _ vd 129 jt jf k _ h rfl (fun w' h'=>(tk_129 w0 w' M KB SB OB UB po m pcap p (pc+1) a x cs vd jt jf k h' hm hpc ua ux uk).mono fun e w2 h2=>⟨h2.1,.go (by rw [show kd 129=⟨129,4,0,true,0,2⟩ from rfl];simp only [fl,Int.reduceEq,Int.reduceToNat,if_true,if_false,Bool.false_eq_true]) h2.2⟩))
theorem df_177 (w0 w:World) (M KB SB OB UB:Nat) (po:Option Addr) (m pcap:Nat) (p:Nat→Int) (pc:Nat) (a x:Int) (cs:Nat→Int) (vd jt jf k:Int) (h:QM w0 w M KB SB OB UB (.slice po m pcap) ⟨pc+1,a,x,cs⟩ false vd) (hm:m≤2000) (hpc:pc+1≤1000) (ua:U32 a) (ux:U32 x) (uk:U32 k) (hmc:m≤pcap) (hp:Oct p) (hsrc:Src w0 .u8 po m p) (hjt:0≤jt∧jt≤4294967295) (hjf:0≤jf∧jf≤4294967295) :
  Calls Tryz.prog 74 #[.pointer (some ⟨M,0,none⟩),.agg #[.int .i64 177,.int .i64 jt,.int .i64 jf,.int .i64 k]] w fun e w'=>e=.returned (.tuple #[])∧DPost w0 w' M KB SB OB UB (.slice po m pcap) vd (fl (kd 177) jt jf k p m ⟨pc,a,x,cs⟩):=by
 by_cases hq:k.toNat+1≤m
 ·exact (do_c1 w0 w M KB SB OB UB _ _ vd 177 jt jf k _ h rfl (fun w' h'=>(ld_177y w0 w' M KB SB OB UB po m pcap p (pc+1) a x cs vd jt jf k h' hm hpc ua ux uk hmc hp hsrc hq).mono fun e w2 h2=>⟨h2.1,.go (by rw [show kd 177=⟨177,5,0,false,0,1⟩ from rfl];simp only [fl,hq,Int.reduceEq,Int.reduceToNat,if_true,if_false,Bool.false_eq_true]) h2.2⟩))
 ·exact (do_c1 w0 w M KB SB OB UB _ _ vd 177 jt jf k _ h rfl (fun w' h'=>(ld_177n w0 w' M KB SB OB UB po m pcap p (pc+1) a x cs vd jt jf k h' hm hpc ua ux uk hq).mono fun e w2 h2=>⟨h2.1,.fin (S:=⟨pc,a,x,cs⟩) (by rw [show kd 177=⟨177,5,0,false,0,1⟩ from rfl];simp only [fl,hq,Int.reduceEq,Int.reduceToNat,if_true,if_false,Bool.false_eq_true]) h2.2⟩))
theorem df_2 (w0 w:World) (M KB SB OB UB:Nat) (po:Option Addr) (m pcap:Nat) (p:Nat→Int) (pc:Nat) (a x:Int) (cs:Nat→Int) (vd jt jf k:Int) (h:QM w0 w M KB SB OB UB (.slice po m pcap) ⟨pc+1,a,x,cs⟩ false vd) (hm:m≤2000) (hpc:pc+1≤1000) (ua:U32 a) (ux:U32 x) (uk:U32 k) (hmc:m≤pcap) (hp:Oct p) (hsrc:Src w0 .u8 po m p) (hjt:0≤jt∧jt≤4294967295) (hjf:0≤jf∧jf≤4294967295) (k16:k<16) :
  Calls Tryz.prog 74 #[.pointer (some ⟨M,0,none⟩),.agg #[.int .i64 2,.int .i64 jt,.int .i64 jf,.int .i64 k]] w fun e w'=>e=.returned (.tuple #[])∧DPost w0 w' M KB SB OB UB (.slice po m pcap) vd (fl (kd 2) jt jf k p m ⟨pc,a,x,cs⟩):=by
 exact (do_c4 w0 w M KB SB OB UB _ _ vd 2 jt jf k _ h rfl (fun w' h'=>(cp_2 w0 w' M KB SB OB UB po m pcap p (pc+1) a x cs vd jt jf k h' hm hpc ua ux uk k16).mono fun e w2 h2=>⟨h2.1,.go (by rw [show kd 2=⟨2,6,0,false,0,4⟩ from rfl];simp only [fl,Int.reduceEq,Int.reduceToNat,if_true,if_false,Bool.false_eq_true]) h2.2⟩))
theorem df_3 (w0 w:World) (M KB SB OB UB:Nat) (po:Option Addr) (m pcap:Nat) (p:Nat→Int) (pc:Nat) (a x:Int) (cs:Nat→Int) (vd jt jf k:Int) (h:QM w0 w M KB SB OB UB (.slice po m pcap) ⟨pc+1,a,x,cs⟩ false vd) (hm:m≤2000) (hpc:pc+1≤1000) (ua:U32 a) (ux:U32 x) (uk:U32 k) (hmc:m≤pcap) (hp:Oct p) (hsrc:Src w0 .u8 po m p) (hjt:0≤jt∧jt≤4294967295) (hjf:0≤jf∧jf≤4294967295) (k16:k<16) :
  Calls Tryz.prog 74 #[.pointer (some ⟨M,0,none⟩),.agg #[.int .i64 3,.int .i64 jt,.int .i64 jf,.int .i64 k]] w fun e w'=>e=.returned (.tuple #[])∧DPost w0 w' M KB SB OB UB (.slice po m pcap) vd (fl (kd 3) jt jf k p m ⟨pc,a,x,cs⟩):=by
 exact (do_c4 w0 w M KB SB OB UB _ _ vd 3 jt jf k _ h rfl (fun w' h'=>(cp_3 w0 w' M KB SB OB UB po m pcap p (pc+1) a x cs vd jt jf k h' hm hpc ua ux uk k16).mono fun e w2 h2=>⟨h2.1,.go (by rw [show kd 3=⟨3,6,0,true,0,4⟩ from rfl];simp only [fl,Int.reduceEq,Int.reduceToNat,if_true,if_false,Bool.false_eq_true]) h2.2⟩))
theorem df_7 (w0 w:World) (M KB SB OB UB:Nat) (po:Option Addr) (m pcap:Nat) (p:Nat→Int) (pc:Nat) (a x:Int) (cs:Nat→Int) (vd jt jf k:Int) (h:QM w0 w M KB SB OB UB (.slice po m pcap) ⟨pc+1,a,x,cs⟩ false vd) (hm:m≤2000) (hpc:pc+1≤1000) (ua:U32 a) (ux:U32 x) (uk:U32 k) (hmc:m≤pcap) (hp:Oct p) (hsrc:Src w0 .u8 po m p) (hjt:0≤jt∧jt≤4294967295) (hjf:0≤jf∧jf≤4294967295) :
  Calls Tryz.prog 74 #[.pointer (some ⟨M,0,none⟩),.agg #[.int .i64 7,.int .i64 jt,.int .i64 jf,.int .i64 k]] w fun e w'=>e=.returned (.tuple #[])∧DPost w0 w' M KB SB OB UB (.slice po m pcap) vd (fl (kd 7) jt jf k p m ⟨pc,a,x,cs⟩):=by
 exact (do_c5 w0 w M KB SB OB UB _ _ vd 7 jt jf k _ h rfl (fun w' h'=>(cp_7 w0 w' M KB SB OB UB po m pcap p (pc+1) a x cs vd jt jf k h' hm hpc ua ux uk).mono fun e w2 h2=>⟨h2.1,.go (by rw [show kd 7=⟨7,7,0,true,0,5⟩ from rfl];simp only [fl,Int.reduceEq,Int.reduceToNat,if_true,if_false,Bool.false_eq_true]) h2.2⟩))
theorem df_135 (w0 w:World) (M KB SB OB UB:Nat) (po:Option Addr) (m pcap:Nat) (p:Nat→Int) (pc:Nat) (a x:Int) (cs:Nat→Int) (vd jt jf k:Int) (h:QM w0 w M KB SB OB UB (.slice po m pcap) ⟨pc+1,a,x,cs⟩ false vd) (hm:m≤2000) (hpc:pc+1≤1000) (ua:U32 a) (ux:U32 x) (uk:U32 k) (hmc:m≤pcap) (hp:Oct p) (hsrc:Src w0 .u8 po m p) (hjt:0≤jt∧jt≤4294967295) (hjf:0≤jf∧jf≤4294967295) :
  Calls Tryz.prog 74 #[.pointer (some ⟨M,0,none⟩),.agg #[.int .i64 135,.int .i64 jt,.int .i64 jf,.int .i64 k]] w fun e w'=>e=.returned (.tuple #[])∧DPost w0 w' M KB SB OB UB (.slice po m pcap) vd (fl (kd 135) jt jf k p m ⟨pc,a,x,cs⟩):=by
 exact (do_c5 w0 w M KB SB OB UB _ _ vd 135 jt jf k _ h rfl (fun w' h'=>(cp_135 w0 w' M KB SB OB UB po m pcap p (pc+1) a x cs vd jt jf k h' hm hpc ua ux uk).mono fun e w2 h2=>⟨h2.1,.go (by rw [show kd 135=⟨135,7,0,false,0,5⟩ from rfl];simp only [fl,Int.reduceEq,Int.reduceToNat,if_true,if_false,Bool.false_eq_true]) h2.2⟩))
theorem df_132 (w0 w:World) (M KB SB OB UB:Nat) (po:Option Addr) (m pcap:Nat) (p:Nat→Int) (pc:Nat) (a x:Int) (cs:Nat→Int) (vd jt jf k:Int) (h:QM w0 w M KB SB OB UB (.slice po m pcap) ⟨pc+1,a,x,cs⟩ false vd) (hm:m≤2000) (hpc:pc+1≤1000) (ua:U32 a) (ux:U32 x) (uk:U32 k) (hmc:m≤pcap) (hp:Oct p) (hsrc:Src w0 .u8 po m p) (hjt:0≤jt∧jt≤4294967295) (hjf:0≤jf∧jf≤4294967295) :
  Calls Tryz.prog 74 #[.pointer (some ⟨M,0,none⟩),.agg #[.int .i64 132,.int .i64 jt,.int .i64 jf,.int .i64 k]] w fun e w'=>e=.returned (.tuple #[])∧DPost w0 w' M KB SB OB UB (.slice po m pcap) vd (fl (kd 132) jt jf k p m ⟨pc,a,x,cs⟩):=by
 exact (do_c6 w0 w M KB SB OB UB _ _ vd 132 jt jf k _ h rfl (fun w' h'=>(rk_132 w0 w' M KB SB OB UB po m pcap p (pc+1) a x cs vd jt jf k h' hm hpc ua ux uk).mono fun e w2 h2=>⟨h2.1,.go (by rw [show kd 132=⟨132,9,0,false,0,6⟩ from rfl];simp only [fl,Int.reduceEq,Int.reduceToNat,if_true,if_false,Bool.false_eq_true]) h2.2⟩))
theorem df_5 (w0 w:World) (M KB SB OB UB:Nat) (po:Option Addr) (m pcap:Nat) (p:Nat→Int) (pc:Nat) (a x:Int) (cs:Nat→Int) (vd jt jf k:Int) (h:QM w0 w M KB SB OB UB (.slice po m pcap) ⟨pc+1,a,x,cs⟩ false vd) (hm:m≤2000) (hpc:pc+1≤1000) (ua:U32 a) (ux:U32 x) (uk:U32 k) (hmc:m≤pcap) (hp:Oct p) (hsrc:Src w0 .u8 po m p) (hjt:0≤jt∧jt≤4294967295) (hjf:0≤jf∧jf≤4294967295) :
  Calls Tryz.prog 74 #[.pointer (some ⟨M,0,none⟩),.agg #[.int .i64 5,.int .i64 jt,.int .i64 jf,.int .i64 k]] w fun e w'=>e=.returned (.tuple #[])∧DPost w0 w' M KB SB OB UB (.slice po m pcap) vd (fl (kd 5) jt jf k p m ⟨pc,a,x,cs⟩):=by
 exact (do_c9 w0 w M KB SB OB UB _ _ vd 5 jt jf k _ h rfl (fun w' h'=>(jp_5 w0 w' M KB SB OB UB po m pcap p (pc+1) a x cs vd jt jf k h' hm hpc ua ux uk).mono fun e w2 h2=>⟨h2.1,.go (by rw [show kd 5=⟨5,10,0,false,0,9⟩ from rfl];simp only [fl,Int.reduceEq,Int.reduceToNat,if_true,if_false,Bool.false_eq_true]) h2.2⟩))
theorem df_6 (w0 w:World) (M KB SB OB UB:Nat) (po:Option Addr) (m pcap:Nat) (p:Nat→Int) (pc:Nat) (a x:Int) (cs:Nat→Int) (vd jt jf k:Int) (h:QM w0 w M KB SB OB UB (.slice po m pcap) ⟨pc+1,a,x,cs⟩ false vd) (hm:m≤2000) (hpc:pc+1≤1000) (ua:U32 a) (ux:U32 x) (uk:U32 k) (hmc:m≤pcap) (hp:Oct p) (hsrc:Src w0 .u8 po m p) (hjt:0≤jt∧jt≤4294967295) (hjf:0≤jf∧jf≤4294967295) :
  Calls Tryz.prog 74 #[.pointer (some ⟨M,0,none⟩),.agg #[.int .i64 6,.int .i64 jt,.int .i64 jf,.int .i64 k]] w fun e w'=>e=.returned (.tuple #[])∧DPost w0 w' M KB SB OB UB (.slice po m pcap) vd (fl (kd 6) jt jf k p m ⟨pc,a,x,cs⟩):=by
 exact (do_c11 w0 w M KB SB OB UB _ _ vd 6 jt jf k _ h rfl (fun w' h'=>(gv_6 w0 w' M KB SB OB UB po m pcap p (pc+1) a x cs vd jt jf k h' hm hpc ua ux uk).mono fun e w2 h2=>⟨h2.1,.fin (S:=⟨pc,a,x,cs⟩) (by rw [show kd 6=⟨6,12,0,false,0,11⟩ from rfl];simp only [fl,Int.reduceEq,Int.reduceToNat,if_true,if_false,Bool.false_eq_true]) h2.2⟩))
theorem df_22 (w0 w:World) (M KB SB OB UB:Nat) (po:Option Addr) (m pcap:Nat) (p:Nat→Int) (pc:Nat) (a x:Int) (cs:Nat→Int) (vd jt jf k:Int) (h:QM w0 w M KB SB OB UB (.slice po m pcap) ⟨pc+1,a,x,cs⟩ false vd) (hm:m≤2000) (hpc:pc+1≤1000) (ua:U32 a) (ux:U32 x) (uk:U32 k) (hmc:m≤pcap) (hp:Oct p) (hsrc:Src w0 .u8 po m p) (hjt:0≤jt∧jt≤4294967295) (hjf:0≤jf∧jf≤4294967295) :
  Calls Tryz.prog 74 #[.pointer (some ⟨M,0,none⟩),.agg #[.int .i64 22,.int .i64 jt,.int .i64 jf,.int .i64 k]] w fun e w'=>e=.returned (.tuple #[])∧DPost w0 w' M KB SB OB UB (.slice po m pcap) vd (fl (kd 22) jt jf k p m ⟨pc,a,x,cs⟩):=by
 exact (do_c11 w0 w M KB SB OB UB _ _ vd 22 jt jf k _ h rfl (fun w' h'=>(gv_22 w0 w' M KB SB OB UB po m pcap p (pc+1) a x cs vd jt jf k h' hm hpc ua ux uk).mono fun e w2 h2=>⟨h2.1,.fin (S:=⟨pc,a,x,cs⟩) (by rw [show kd 22=⟨22,12,0,true,0,11⟩ from rfl];simp only [fl,Int.reduceEq,Int.reduceToNat,if_true,if_false,Bool.false_eq_true]) h2.2⟩))
theorem df_4 (w0 w:World) (M KB SB OB UB:Nat) (po:Option Addr) (m pcap:Nat) (p:Nat→Int) (pc:Nat) (a x:Int) (cs:Nat→Int) (vd jt jf k:Int) (h:QM w0 w M KB SB OB UB (.slice po m pcap) ⟨pc+1,a,x,cs⟩ false vd) (hm:m≤2000) (hpc:pc+1≤1000) (ua:U32 a) (ux:U32 x) (uk:U32 k) (hmc:m≤pcap) (hp:Oct p) (hsrc:Src w0 .u8 po m p) (hjt:0≤jt∧jt≤4294967295) (hjf:0≤jf∧jf≤4294967295) :
  Calls Tryz.prog 74 #[.pointer (some ⟨M,0,none⟩),.agg #[.int .i64 4,.int .i64 jt,.int .i64 jf,.int .i64 k]] w fun e w'=>e=.returned (.tuple #[])∧DPost w0 w' M KB SB OB UB (.slice po m pcap) vd (fl (kd 4) jt jf k p m ⟨pc,a,x,cs⟩):=by
 have hq:div0 0 k=false:=rfl
 exact (do_c6 w0 w M KB SB OB UB _ _ vd 4 jt jf k _ h rfl (fun w' h'=>(rk_4n w0 w' M KB SB OB UB po m pcap p (pc+1) a x cs vd jt jf k h' hm hpc ua ux uk).mono fun e w2 h2=>⟨h2.1,.go (by rw [show kd 4=⟨4,8,0,false,0,6⟩ from rfl];simp only [fl,hq,Int.reduceEq,Int.reduceToNat,if_true,if_false,Bool.false_eq_true]) h2.2⟩))
theorem df_20 (w0 w:World) (M KB SB OB UB:Nat) (po:Option Addr) (m pcap:Nat) (p:Nat→Int) (pc:Nat) (a x:Int) (cs:Nat→Int) (vd jt jf k:Int) (h:QM w0 w M KB SB OB UB (.slice po m pcap) ⟨pc+1,a,x,cs⟩ false vd) (hm:m≤2000) (hpc:pc+1≤1000) (ua:U32 a) (ux:U32 x) (uk:U32 k) (hmc:m≤pcap) (hp:Oct p) (hsrc:Src w0 .u8 po m p) (hjt:0≤jt∧jt≤4294967295) (hjf:0≤jf∧jf≤4294967295) :
  Calls Tryz.prog 74 #[.pointer (some ⟨M,0,none⟩),.agg #[.int .i64 20,.int .i64 jt,.int .i64 jf,.int .i64 k]] w fun e w'=>e=.returned (.tuple #[])∧DPost w0 w' M KB SB OB UB (.slice po m pcap) vd (fl (kd 20) jt jf k p m ⟨pc,a,x,cs⟩):=by
 have hq:div0 1 k=false:=rfl
 exact (do_c6 w0 w M KB SB OB UB _ _ vd 20 jt jf k _ h rfl (fun w' h'=>(rk_20n w0 w' M KB SB OB UB po m pcap p (pc+1) a x cs vd jt jf k h' hm hpc ua ux uk).mono fun e w2 h2=>⟨h2.1,.go (by rw [show kd 20=⟨20,8,0,false,1,6⟩ from rfl];simp only [fl,hq,Int.reduceEq,Int.reduceToNat,if_true,if_false,Bool.false_eq_true]) h2.2⟩))
theorem df_36 (w0 w:World) (M KB SB OB UB:Nat) (po:Option Addr) (m pcap:Nat) (p:Nat→Int) (pc:Nat) (a x:Int) (cs:Nat→Int) (vd jt jf k:Int) (h:QM w0 w M KB SB OB UB (.slice po m pcap) ⟨pc+1,a,x,cs⟩ false vd) (hm:m≤2000) (hpc:pc+1≤1000) (ua:U32 a) (ux:U32 x) (uk:U32 k) (hmc:m≤pcap) (hp:Oct p) (hsrc:Src w0 .u8 po m p) (hjt:0≤jt∧jt≤4294967295) (hjf:0≤jf∧jf≤4294967295) :
  Calls Tryz.prog 74 #[.pointer (some ⟨M,0,none⟩),.agg #[.int .i64 36,.int .i64 jt,.int .i64 jf,.int .i64 k]] w fun e w'=>e=.returned (.tuple #[])∧DPost w0 w' M KB SB OB UB (.slice po m pcap) vd (fl (kd 36) jt jf k p m ⟨pc,a,x,cs⟩):=by
 have hq:div0 2 k=false:=rfl
 exact (do_c6 w0 w M KB SB OB UB _ _ vd 36 jt jf k _ h rfl (fun w' h'=>(rk_36n w0 w' M KB SB OB UB po m pcap p (pc+1) a x cs vd jt jf k h' hm hpc ua ux uk).mono fun e w2 h2=>⟨h2.1,.go (by rw [show kd 36=⟨36,8,0,false,2,6⟩ from rfl];simp only [fl,hq,Int.reduceEq,Int.reduceToNat,if_true,if_false,Bool.false_eq_true]) h2.2⟩))
theorem df_52 (w0 w:World) (M KB SB OB UB:Nat) (po:Option Addr) (m pcap:Nat) (p:Nat→Int) (pc:Nat) (a x:Int) (cs:Nat→Int) (vd jt jf k:Int) (h:QM w0 w M KB SB OB UB (.slice po m pcap) ⟨pc+1,a,x,cs⟩ false vd) (hm:m≤2000) (hpc:pc+1≤1000) (ua:U32 a) (ux:U32 x) (uk:U32 k) (hmc:m≤pcap) (hp:Oct p) (hsrc:Src w0 .u8 po m p) (hjt:0≤jt∧jt≤4294967295) (hjf:0≤jf∧jf≤4294967295) :
  Calls Tryz.prog 74 #[.pointer (some ⟨M,0,none⟩),.agg #[.int .i64 52,.int .i64 jt,.int .i64 jf,.int .i64 k]] w fun e w'=>e=.returned (.tuple #[])∧DPost w0 w' M KB SB OB UB (.slice po m pcap) vd (fl (kd 52) jt jf k p m ⟨pc,a,x,cs⟩):=by
 cases hq:div0 3 k with
 | false=>exact (do_c7 w0 w M KB SB OB UB _ _ vd 52 jt jf k _ h rfl (fun w' h'=>(rk_52n w0 w' M KB SB OB UB po m pcap p (pc+1) a x cs vd jt jf k h' hm hpc ua ux uk hq).mono fun e w2 h2=>⟨h2.1,.go (by rw [show kd 52=⟨52,8,0,false,3,7⟩ from rfl];simp only [fl,hq,Int.reduceEq,Int.reduceToNat,if_true,if_false,Bool.false_eq_true]) h2.2⟩))
 | true=>exact (do_c7 w0 w M KB SB OB UB _ _ vd 52 jt jf k _ h rfl (fun w' h'=>(rk_52z w0 w' M KB SB OB UB po m pcap p (pc+1) a x cs vd jt jf k h' hm hpc ua ux uk hq).mono fun e w2 h2=>⟨h2.1,.fin (S:=⟨pc,a,x,cs⟩) (by rw [show kd 52=⟨52,8,0,false,3,7⟩ from rfl];simp only [fl,hq,Int.reduceEq,Int.reduceToNat,if_true,if_false,Bool.false_eq_true]) h2.2⟩))
theorem df_148 (w0 w:World) (M KB SB OB UB:Nat) (po:Option Addr) (m pcap:Nat) (p:Nat→Int) (pc:Nat) (a x:Int) (cs:Nat→Int) (vd jt jf k:Int) (h:QM w0 w M KB SB OB UB (.slice po m pcap) ⟨pc+1,a,x,cs⟩ false vd) (hm:m≤2000) (hpc:pc+1≤1000) (ua:U32 a) (ux:U32 x) (uk:U32 k) (hmc:m≤pcap) (hp:Oct p) (hsrc:Src w0 .u8 po m p) (hjt:0≤jt∧jt≤4294967295) (hjf:0≤jf∧jf≤4294967295) :
  Calls Tryz.prog 74 #[.pointer (some ⟨M,0,none⟩),.agg #[.int .i64 148,.int .i64 jt,.int .i64 jf,.int .i64 k]] w fun e w'=>e=.returned (.tuple #[])∧DPost w0 w' M KB SB OB UB (.slice po m pcap) vd (fl (kd 148) jt jf k p m ⟨pc,a,x,cs⟩):=by
 cases hq:div0 4 k with
 | false=>exact (do_c7 w0 w M KB SB OB UB _ _ vd 148 jt jf k _ h rfl (fun w' h'=>(rk_148n w0 w' M KB SB OB UB po m pcap p (pc+1) a x cs vd jt jf k h' hm hpc ua ux uk hq).mono fun e w2 h2=>⟨h2.1,.go (by rw [show kd 148=⟨148,8,0,false,4,7⟩ from rfl];simp only [fl,hq,Int.reduceEq,Int.reduceToNat,if_true,if_false,Bool.false_eq_true]) h2.2⟩))
 | true=>exact (do_c7 w0 w M KB SB OB UB _ _ vd 148 jt jf k _ h rfl (fun w' h'=>(rk_148z w0 w' M KB SB OB UB po m pcap p (pc+1) a x cs vd jt jf k h' hm hpc ua ux uk hq).mono fun e w2 h2=>⟨h2.1,.fin (S:=⟨pc,a,x,cs⟩) (by rw [show kd 148=⟨148,8,0,false,4,7⟩ from rfl];simp only [fl,hq,Int.reduceEq,Int.reduceToNat,if_true,if_false,Bool.false_eq_true]) h2.2⟩))
theorem df_68 (w0 w:World) (M KB SB OB UB:Nat) (po:Option Addr) (m pcap:Nat) (p:Nat→Int) (pc:Nat) (a x:Int) (cs:Nat→Int) (vd jt jf k:Int) (h:QM w0 w M KB SB OB UB (.slice po m pcap) ⟨pc+1,a,x,cs⟩ false vd) (hm:m≤2000) (hpc:pc+1≤1000) (ua:U32 a) (ux:U32 x) (uk:U32 k) (hmc:m≤pcap) (hp:Oct p) (hsrc:Src w0 .u8 po m p) (hjt:0≤jt∧jt≤4294967295) (hjf:0≤jf∧jf≤4294967295) :
  Calls Tryz.prog 74 #[.pointer (some ⟨M,0,none⟩),.agg #[.int .i64 68,.int .i64 jt,.int .i64 jf,.int .i64 k]] w fun e w'=>e=.returned (.tuple #[])∧DPost w0 w' M KB SB OB UB (.slice po m pcap) vd (fl (kd 68) jt jf k p m ⟨pc,a,x,cs⟩):=by
 have hq:div0 5 k=false:=rfl
 exact (do_c6 w0 w M KB SB OB UB _ _ vd 68 jt jf k _ h rfl (fun w' h'=>(rk_68n w0 w' M KB SB OB UB po m pcap p (pc+1) a x cs vd jt jf k h' hm hpc ua ux uk).mono fun e w2 h2=>⟨h2.1,.go (by rw [show kd 68=⟨68,8,0,false,5,6⟩ from rfl];simp only [fl,hq,Int.reduceEq,Int.reduceToNat,if_true,if_false,Bool.false_eq_true]) h2.2⟩))
theorem df_84 (w0 w:World) (M KB SB OB UB:Nat) (po:Option Addr) (m pcap:Nat) (p:Nat→Int) (pc:Nat) (a x:Int) (cs:Nat→Int) (vd jt jf k:Int) (h:QM w0 w M KB SB OB UB (.slice po m pcap) ⟨pc+1,a,x,cs⟩ false vd) (hm:m≤2000) (hpc:pc+1≤1000) (ua:U32 a) (ux:U32 x) (uk:U32 k) (hmc:m≤pcap) (hp:Oct p) (hsrc:Src w0 .u8 po m p) (hjt:0≤jt∧jt≤4294967295) (hjf:0≤jf∧jf≤4294967295) :
  Calls Tryz.prog 74 #[.pointer (some ⟨M,0,none⟩),.agg #[.int .i64 84,.int .i64 jt,.int .i64 jf,.int .i64 k]] w fun e w'=>e=.returned (.tuple #[])∧DPost w0 w' M KB SB OB UB (.slice po m pcap) vd (fl (kd 84) jt jf k p m ⟨pc,a,x,cs⟩):=by
 have hq:div0 6 k=false:=rfl
 exact (do_c6 w0 w M KB SB OB UB _ _ vd 84 jt jf k _ h rfl (fun w' h'=>(rk_84n w0 w' M KB SB OB UB po m pcap p (pc+1) a x cs vd jt jf k h' hm hpc ua ux uk).mono fun e w2 h2=>⟨h2.1,.go (by rw [show kd 84=⟨84,8,0,false,6,6⟩ from rfl];simp only [fl,hq,Int.reduceEq,Int.reduceToNat,if_true,if_false,Bool.false_eq_true]) h2.2⟩))
theorem df_164 (w0 w:World) (M KB SB OB UB:Nat) (po:Option Addr) (m pcap:Nat) (p:Nat→Int) (pc:Nat) (a x:Int) (cs:Nat→Int) (vd jt jf k:Int) (h:QM w0 w M KB SB OB UB (.slice po m pcap) ⟨pc+1,a,x,cs⟩ false vd) (hm:m≤2000) (hpc:pc+1≤1000) (ua:U32 a) (ux:U32 x) (uk:U32 k) (hmc:m≤pcap) (hp:Oct p) (hsrc:Src w0 .u8 po m p) (hjt:0≤jt∧jt≤4294967295) (hjf:0≤jf∧jf≤4294967295) :
  Calls Tryz.prog 74 #[.pointer (some ⟨M,0,none⟩),.agg #[.int .i64 164,.int .i64 jt,.int .i64 jf,.int .i64 k]] w fun e w'=>e=.returned (.tuple #[])∧DPost w0 w' M KB SB OB UB (.slice po m pcap) vd (fl (kd 164) jt jf k p m ⟨pc,a,x,cs⟩):=by
 have hq:div0 7 k=false:=rfl
 exact (do_c6 w0 w M KB SB OB UB _ _ vd 164 jt jf k _ h rfl (fun w' h'=>(rk_164n w0 w' M KB SB OB UB po m pcap p (pc+1) a x cs vd jt jf k h' hm hpc ua ux uk).mono fun e w2 h2=>⟨h2.1,.go (by rw [show kd 164=⟨164,8,0,false,7,6⟩ from rfl];simp only [fl,hq,Int.reduceEq,Int.reduceToNat,if_true,if_false,Bool.false_eq_true]) h2.2⟩))
theorem df_100 (w0 w:World) (M KB SB OB UB:Nat) (po:Option Addr) (m pcap:Nat) (p:Nat→Int) (pc:Nat) (a x:Int) (cs:Nat→Int) (vd jt jf k:Int) (h:QM w0 w M KB SB OB UB (.slice po m pcap) ⟨pc+1,a,x,cs⟩ false vd) (hm:m≤2000) (hpc:pc+1≤1000) (ua:U32 a) (ux:U32 x) (uk:U32 k) (hmc:m≤pcap) (hp:Oct p) (hsrc:Src w0 .u8 po m p) (hjt:0≤jt∧jt≤4294967295) (hjf:0≤jf∧jf≤4294967295) :
  Calls Tryz.prog 74 #[.pointer (some ⟨M,0,none⟩),.agg #[.int .i64 100,.int .i64 jt,.int .i64 jf,.int .i64 k]] w fun e w'=>e=.returned (.tuple #[])∧DPost w0 w' M KB SB OB UB (.slice po m pcap) vd (fl (kd 100) jt jf k p m ⟨pc,a,x,cs⟩):=by
 have hq:div0 8 k=false:=rfl
 exact (do_c8 w0 w M KB SB OB UB _ _ vd 100 jt jf k _ h rfl (fun w' h'=>(rk_100n w0 w' M KB SB OB UB po m pcap p (pc+1) a x cs vd jt jf k h' hm hpc ua ux uk).mono fun e w2 h2=>⟨h2.1,.go (by rw [show kd 100=⟨100,8,0,false,8,8⟩ from rfl];simp only [fl,hq,Int.reduceEq,Int.reduceToNat,if_true,if_false,Bool.false_eq_true]) h2.2⟩))
theorem df_116 (w0 w:World) (M KB SB OB UB:Nat) (po:Option Addr) (m pcap:Nat) (p:Nat→Int) (pc:Nat) (a x:Int) (cs:Nat→Int) (vd jt jf k:Int) (h:QM w0 w M KB SB OB UB (.slice po m pcap) ⟨pc+1,a,x,cs⟩ false vd) (hm:m≤2000) (hpc:pc+1≤1000) (ua:U32 a) (ux:U32 x) (uk:U32 k) (hmc:m≤pcap) (hp:Oct p) (hsrc:Src w0 .u8 po m p) (hjt:0≤jt∧jt≤4294967295) (hjf:0≤jf∧jf≤4294967295) :
  Calls Tryz.prog 74 #[.pointer (some ⟨M,0,none⟩),.agg #[.int .i64 116,.int .i64 jt,.int .i64 jf,.int .i64 k]] w fun e w'=>e=.returned (.tuple #[])∧DPost w0 w' M KB SB OB UB (.slice po m pcap) vd (fl (kd 116) jt jf k p m ⟨pc,a,x,cs⟩):=by
 have hq:div0 9 k=false:=rfl
 exact (do_c8 w0 w M KB SB OB UB _ _ vd 116 jt jf k _ h rfl (fun w' h'=>(rk_116n w0 w' M KB SB OB UB po m pcap p (pc+1) a x cs vd jt jf k h' hm hpc ua ux uk).mono fun e w2 h2=>⟨h2.1,.go (by rw [show kd 116=⟨116,8,0,false,9,8⟩ from rfl];simp only [fl,hq,Int.reduceEq,Int.reduceToNat,if_true,if_false,Bool.false_eq_true]) h2.2⟩))
theorem df_12 (w0 w:World) (M KB SB OB UB:Nat) (po:Option Addr) (m pcap:Nat) (p:Nat→Int) (pc:Nat) (a x:Int) (cs:Nat→Int) (vd jt jf k:Int) (h:QM w0 w M KB SB OB UB (.slice po m pcap) ⟨pc+1,a,x,cs⟩ false vd) (hm:m≤2000) (hpc:pc+1≤1000) (ua:U32 a) (ux:U32 x) (uk:U32 k) (hmc:m≤pcap) (hp:Oct p) (hsrc:Src w0 .u8 po m p) (hjt:0≤jt∧jt≤4294967295) (hjf:0≤jf∧jf≤4294967295) :
  Calls Tryz.prog 74 #[.pointer (some ⟨M,0,none⟩),.agg #[.int .i64 12,.int .i64 jt,.int .i64 jf,.int .i64 k]] w fun e w'=>e=.returned (.tuple #[])∧DPost w0 w' M KB SB OB UB (.slice po m pcap) vd (fl (kd 12) jt jf k p m ⟨pc,a,x,cs⟩):=by
 have hq:div0 0 x=false:=rfl
 exact (do_c6 w0 w M KB SB OB UB _ _ vd 12 jt jf k _ h rfl (fun w' h'=>(rk_12n w0 w' M KB SB OB UB po m pcap p (pc+1) a x cs vd jt jf k h' hm hpc ua ux uk).mono fun e w2 h2=>⟨h2.1,.go (by rw [show kd 12=⟨12,8,0,true,0,6⟩ from rfl];simp only [fl,hq,Int.reduceEq,Int.reduceToNat,if_true,if_false,Bool.false_eq_true]) h2.2⟩))
theorem df_28 (w0 w:World) (M KB SB OB UB:Nat) (po:Option Addr) (m pcap:Nat) (p:Nat→Int) (pc:Nat) (a x:Int) (cs:Nat→Int) (vd jt jf k:Int) (h:QM w0 w M KB SB OB UB (.slice po m pcap) ⟨pc+1,a,x,cs⟩ false vd) (hm:m≤2000) (hpc:pc+1≤1000) (ua:U32 a) (ux:U32 x) (uk:U32 k) (hmc:m≤pcap) (hp:Oct p) (hsrc:Src w0 .u8 po m p) (hjt:0≤jt∧jt≤4294967295) (hjf:0≤jf∧jf≤4294967295) :
  Calls Tryz.prog 74 #[.pointer (some ⟨M,0,none⟩),.agg #[.int .i64 28,.int .i64 jt,.int .i64 jf,.int .i64 k]] w fun e w'=>e=.returned (.tuple #[])∧DPost w0 w' M KB SB OB UB (.slice po m pcap) vd (fl (kd 28) jt jf k p m ⟨pc,a,x,cs⟩):=by
 have hq:div0 1 x=false:=rfl
 exact (do_c6 w0 w M KB SB OB UB _ _ vd 28 jt jf k _ h rfl (fun w' h'=>(rk_28n w0 w' M KB SB OB UB po m pcap p (pc+1) a x cs vd jt jf k h' hm hpc ua ux uk).mono fun e w2 h2=>⟨h2.1,.go (by rw [show kd 28=⟨28,8,0,true,1,6⟩ from rfl];simp only [fl,hq,Int.reduceEq,Int.reduceToNat,if_true,if_false,Bool.false_eq_true]) h2.2⟩))
theorem df_44 (w0 w:World) (M KB SB OB UB:Nat) (po:Option Addr) (m pcap:Nat) (p:Nat→Int) (pc:Nat) (a x:Int) (cs:Nat→Int) (vd jt jf k:Int) (h:QM w0 w M KB SB OB UB (.slice po m pcap) ⟨pc+1,a,x,cs⟩ false vd) (hm:m≤2000) (hpc:pc+1≤1000) (ua:U32 a) (ux:U32 x) (uk:U32 k) (hmc:m≤pcap) (hp:Oct p) (hsrc:Src w0 .u8 po m p) (hjt:0≤jt∧jt≤4294967295) (hjf:0≤jf∧jf≤4294967295) :
  Calls Tryz.prog 74 #[.pointer (some ⟨M,0,none⟩),.agg #[.int .i64 44,.int .i64 jt,.int .i64 jf,.int .i64 k]] w fun e w'=>e=.returned (.tuple #[])∧DPost w0 w' M KB SB OB UB (.slice po m pcap) vd (fl (kd 44) jt jf k p m ⟨pc,a,x,cs⟩):=by
 have hq:div0 2 x=false:=rfl
 exact (do_c6 w0 w M KB SB OB UB _ _ vd 44 jt jf k _ h rfl (fun w' h'=>(rk_44n w0 w' M KB SB OB UB po m pcap p (pc+1) a x cs vd jt jf k h' hm hpc ua ux uk).mono fun e w2 h2=>⟨h2.1,.go (by rw [show kd 44=⟨44,8,0,true,2,6⟩ from rfl];simp only [fl,hq,Int.reduceEq,Int.reduceToNat,if_true,if_false,Bool.false_eq_true]) h2.2⟩))
theorem df_60 (w0 w:World) (M KB SB OB UB:Nat) (po:Option Addr) (m pcap:Nat) (p:Nat→Int) (pc:Nat) (a x:Int) (cs:Nat→Int) (vd jt jf k:Int) (h:QM w0 w M KB SB OB UB (.slice po m pcap) ⟨pc+1,a,x,cs⟩ false vd) (hm:m≤2000) (hpc:pc+1≤1000) (ua:U32 a) (ux:U32 x) (uk:U32 k) (hmc:m≤pcap) (hp:Oct p) (hsrc:Src w0 .u8 po m p) (hjt:0≤jt∧jt≤4294967295) (hjf:0≤jf∧jf≤4294967295) :
  Calls Tryz.prog 74 #[.pointer (some ⟨M,0,none⟩),.agg #[.int .i64 60,.int .i64 jt,.int .i64 jf,.int .i64 k]] w fun e w'=>e=.returned (.tuple #[])∧DPost w0 w' M KB SB OB UB (.slice po m pcap) vd (fl (kd 60) jt jf k p m ⟨pc,a,x,cs⟩):=by
 cases hq:div0 3 x with
 | false=>exact (do_c6 w0 w M KB SB OB UB _ _ vd 60 jt jf k _ h rfl (fun w' h'=>(rk_60n w0 w' M KB SB OB UB po m pcap p (pc+1) a x cs vd jt jf k h' hm hpc ua ux uk hq).mono fun e w2 h2=>⟨h2.1,.go (by rw [show kd 60=⟨60,8,0,true,3,6⟩ from rfl];simp only [fl,hq,Int.reduceEq,Int.reduceToNat,if_true,if_false,Bool.false_eq_true]) h2.2⟩))
 | true=>exact (do_c6 w0 w M KB SB OB UB _ _ vd 60 jt jf k _ h rfl (fun w' h'=>(rk_60z w0 w' M KB SB OB UB po m pcap p (pc+1) a x cs vd jt jf k h' hm hpc ua ux uk hq).mono fun e w2 h2=>⟨h2.1,.fin (S:=⟨pc,a,x,cs⟩) (by rw [show kd 60=⟨60,8,0,true,3,6⟩ from rfl];simp only [fl,hq,Int.reduceEq,Int.reduceToNat,if_true,if_false,Bool.false_eq_true]) h2.2⟩))
theorem df_156 (w0 w:World) (M KB SB OB UB:Nat) (po:Option Addr) (m pcap:Nat) (p:Nat→Int) (pc:Nat) (a x:Int) (cs:Nat→Int) (vd jt jf k:Int) (h:QM w0 w M KB SB OB UB (.slice po m pcap) ⟨pc+1,a,x,cs⟩ false vd) (hm:m≤2000) (hpc:pc+1≤1000) (ua:U32 a) (ux:U32 x) (uk:U32 k) (hmc:m≤pcap) (hp:Oct p) (hsrc:Src w0 .u8 po m p) (hjt:0≤jt∧jt≤4294967295) (hjf:0≤jf∧jf≤4294967295) :
  Calls Tryz.prog 74 #[.pointer (some ⟨M,0,none⟩),.agg #[.int .i64 156,.int .i64 jt,.int .i64 jf,.int .i64 k]] w fun e w'=>e=.returned (.tuple #[])∧DPost w0 w' M KB SB OB UB (.slice po m pcap) vd (fl (kd 156) jt jf k p m ⟨pc,a,x,cs⟩):=by
 cases hq:div0 4 x with
 | false=>exact (do_c6 w0 w M KB SB OB UB _ _ vd 156 jt jf k _ h rfl (fun w' h'=>(rk_156n w0 w' M KB SB OB UB po m pcap p (pc+1) a x cs vd jt jf k h' hm hpc ua ux uk hq).mono fun e w2 h2=>⟨h2.1,.go (by rw [show kd 156=⟨156,8,0,true,4,6⟩ from rfl];simp only [fl,hq,Int.reduceEq,Int.reduceToNat,if_true,if_false,Bool.false_eq_true]) h2.2⟩))
 | true=>exact (do_c6 w0 w M KB SB OB UB _ _ vd 156 jt jf k _ h rfl (fun w' h'=>(rk_156z w0 w' M KB SB OB UB po m pcap p (pc+1) a x cs vd jt jf k h' hm hpc ua ux uk hq).mono fun e w2 h2=>⟨h2.1,.fin (S:=⟨pc,a,x,cs⟩) (by rw [show kd 156=⟨156,8,0,true,4,6⟩ from rfl];simp only [fl,hq,Int.reduceEq,Int.reduceToNat,if_true,if_false,Bool.false_eq_true]) h2.2⟩))
theorem df_76 (w0 w:World) (M KB SB OB UB:Nat) (po:Option Addr) (m pcap:Nat) (p:Nat→Int) (pc:Nat) (a x:Int) (cs:Nat→Int) (vd jt jf k:Int) (h:QM w0 w M KB SB OB UB (.slice po m pcap) ⟨pc+1,a,x,cs⟩ false vd) (hm:m≤2000) (hpc:pc+1≤1000) (ua:U32 a) (ux:U32 x) (uk:U32 k) (hmc:m≤pcap) (hp:Oct p) (hsrc:Src w0 .u8 po m p) (hjt:0≤jt∧jt≤4294967295) (hjf:0≤jf∧jf≤4294967295) :
  Calls Tryz.prog 74 #[.pointer (some ⟨M,0,none⟩),.agg #[.int .i64 76,.int .i64 jt,.int .i64 jf,.int .i64 k]] w fun e w'=>e=.returned (.tuple #[])∧DPost w0 w' M KB SB OB UB (.slice po m pcap) vd (fl (kd 76) jt jf k p m ⟨pc,a,x,cs⟩):=by
 have hq:div0 5 x=false:=rfl
 exact (do_c6 w0 w M KB SB OB UB _ _ vd 76 jt jf k _ h rfl (fun w' h'=>(rk_76n w0 w' M KB SB OB UB po m pcap p (pc+1) a x cs vd jt jf k h' hm hpc ua ux uk).mono fun e w2 h2=>⟨h2.1,.go (by rw [show kd 76=⟨76,8,0,true,5,6⟩ from rfl];simp only [fl,hq,Int.reduceEq,Int.reduceToNat,if_true,if_false,Bool.false_eq_true]) h2.2⟩))
theorem df_92 (w0 w:World) (M KB SB OB UB:Nat) (po:Option Addr) (m pcap:Nat) (p:Nat→Int) (pc:Nat) (a x:Int) (cs:Nat→Int) (vd jt jf k:Int) (h:QM w0 w M KB SB OB UB (.slice po m pcap) ⟨pc+1,a,x,cs⟩ false vd) (hm:m≤2000) (hpc:pc+1≤1000) (ua:U32 a) (ux:U32 x) (uk:U32 k) (hmc:m≤pcap) (hp:Oct p) (hsrc:Src w0 .u8 po m p) (hjt:0≤jt∧jt≤4294967295) (hjf:0≤jf∧jf≤4294967295) :
  Calls Tryz.prog 74 #[.pointer (some ⟨M,0,none⟩),.agg #[.int .i64 92,.int .i64 jt,.int .i64 jf,.int .i64 k]] w fun e w'=>e=.returned (.tuple #[])∧DPost w0 w' M KB SB OB UB (.slice po m pcap) vd (fl (kd 92) jt jf k p m ⟨pc,a,x,cs⟩):=by
 have hq:div0 6 x=false:=rfl
 exact (do_c6 w0 w M KB SB OB UB _ _ vd 92 jt jf k _ h rfl (fun w' h'=>(rk_92n w0 w' M KB SB OB UB po m pcap p (pc+1) a x cs vd jt jf k h' hm hpc ua ux uk).mono fun e w2 h2=>⟨h2.1,.go (by rw [show kd 92=⟨92,8,0,true,6,6⟩ from rfl];simp only [fl,hq,Int.reduceEq,Int.reduceToNat,if_true,if_false,Bool.false_eq_true]) h2.2⟩))
theorem df_172 (w0 w:World) (M KB SB OB UB:Nat) (po:Option Addr) (m pcap:Nat) (p:Nat→Int) (pc:Nat) (a x:Int) (cs:Nat→Int) (vd jt jf k:Int) (h:QM w0 w M KB SB OB UB (.slice po m pcap) ⟨pc+1,a,x,cs⟩ false vd) (hm:m≤2000) (hpc:pc+1≤1000) (ua:U32 a) (ux:U32 x) (uk:U32 k) (hmc:m≤pcap) (hp:Oct p) (hsrc:Src w0 .u8 po m p) (hjt:0≤jt∧jt≤4294967295) (hjf:0≤jf∧jf≤4294967295) :
  Calls Tryz.prog 74 #[.pointer (some ⟨M,0,none⟩),.agg #[.int .i64 172,.int .i64 jt,.int .i64 jf,.int .i64 k]] w fun e w'=>e=.returned (.tuple #[])∧DPost w0 w' M KB SB OB UB (.slice po m pcap) vd (fl (kd 172) jt jf k p m ⟨pc,a,x,cs⟩):=by
 have hq:div0 7 x=false:=rfl
 exact (do_c6 w0 w M KB SB OB UB _ _ vd 172 jt jf k _ h rfl (fun w' h'=>(rk_172n w0 w' M KB SB OB UB po m pcap p (pc+1) a x cs vd jt jf k h' hm hpc ua ux uk).mono fun e w2 h2=>⟨h2.1,.go (by rw [show kd 172=⟨172,8,0,true,7,6⟩ from rfl];simp only [fl,hq,Int.reduceEq,Int.reduceToNat,if_true,if_false,Bool.false_eq_true]) h2.2⟩))
theorem df_108 (w0 w:World) (M KB SB OB UB:Nat) (po:Option Addr) (m pcap:Nat) (p:Nat→Int) (pc:Nat) (a x:Int) (cs:Nat→Int) (vd jt jf k:Int) (h:QM w0 w M KB SB OB UB (.slice po m pcap) ⟨pc+1,a,x,cs⟩ false vd) (hm:m≤2000) (hpc:pc+1≤1000) (ua:U32 a) (ux:U32 x) (uk:U32 k) (hmc:m≤pcap) (hp:Oct p) (hsrc:Src w0 .u8 po m p) (hjt:0≤jt∧jt≤4294967295) (hjf:0≤jf∧jf≤4294967295) :
  Calls Tryz.prog 74 #[.pointer (some ⟨M,0,none⟩),.agg #[.int .i64 108,.int .i64 jt,.int .i64 jf,.int .i64 k]] w fun e w'=>e=.returned (.tuple #[])∧DPost w0 w' M KB SB OB UB (.slice po m pcap) vd (fl (kd 108) jt jf k p m ⟨pc,a,x,cs⟩):=by
 have hq:div0 8 x=false:=rfl
 exact (do_c6 w0 w M KB SB OB UB _ _ vd 108 jt jf k _ h rfl (fun w' h'=>(rk_108n w0 w' M KB SB OB UB po m pcap p (pc+1) a x cs vd jt jf k h' hm hpc ua ux uk).mono fun e w2 h2=>⟨h2.1,.go (by rw [show kd 108=⟨108,8,0,true,8,6⟩ from rfl];simp only [fl,hq,Int.reduceEq,Int.reduceToNat,if_true,if_false,Bool.false_eq_true]) h2.2⟩))
theorem df_124 (w0 w:World) (M KB SB OB UB:Nat) (po:Option Addr) (m pcap:Nat) (p:Nat→Int) (pc:Nat) (a x:Int) (cs:Nat→Int) (vd jt jf k:Int) (h:QM w0 w M KB SB OB UB (.slice po m pcap) ⟨pc+1,a,x,cs⟩ false vd) (hm:m≤2000) (hpc:pc+1≤1000) (ua:U32 a) (ux:U32 x) (uk:U32 k) (hmc:m≤pcap) (hp:Oct p) (hsrc:Src w0 .u8 po m p) (hjt:0≤jt∧jt≤4294967295) (hjf:0≤jf∧jf≤4294967295) :
  Calls Tryz.prog 74 #[.pointer (some ⟨M,0,none⟩),.agg #[.int .i64 124,.int .i64 jt,.int .i64 jf,.int .i64 k]] w fun e w'=>e=.returned (.tuple #[])∧DPost w0 w' M KB SB OB UB (.slice po m pcap) vd (fl (kd 124) jt jf k p m ⟨pc,a,x,cs⟩):=by
 have hq:div0 9 x=false:=rfl
 exact (do_c6 w0 w M KB SB OB UB _ _ vd 124 jt jf k _ h rfl (fun w' h'=>(rk_124n w0 w' M KB SB OB UB po m pcap p (pc+1) a x cs vd jt jf k h' hm hpc ua ux uk).mono fun e w2 h2=>⟨h2.1,.go (by rw [show kd 124=⟨124,8,0,true,9,6⟩ from rfl];simp only [fl,hq,Int.reduceEq,Int.reduceToNat,if_true,if_false,Bool.false_eq_true]) h2.2⟩))
theorem df_21 (w0 w:World) (M KB SB OB UB:Nat) (po:Option Addr) (m pcap:Nat) (p:Nat→Int) (pc:Nat) (a x:Int) (cs:Nat→Int) (vd jt jf k:Int) (h:QM w0 w M KB SB OB UB (.slice po m pcap) ⟨pc+1,a,x,cs⟩ false vd) (hm:m≤2000) (hpc:pc+1≤1000) (ua:U32 a) (ux:U32 x) (uk:U32 k) (hmc:m≤pcap) (hp:Oct p) (hsrc:Src w0 .u8 po m p) (hjt:0≤jt∧jt≤4294967295) (hjf:0≤jf∧jf≤4294967295) :
  Calls Tryz.prog 74 #[.pointer (some ⟨M,0,none⟩),.agg #[.int .i64 21,.int .i64 jt,.int .i64 jf,.int .i64 k]] w fun e w'=>e=.returned (.tuple #[])∧DPost w0 w' M KB SB OB UB (.slice po m pcap) vd (fl (kd 21) jt jf k p m ⟨pc,a,x,cs⟩):=by
 cases hq:askv 0 a k with
 | false=>exact (do_c10 w0 w M KB SB OB UB _ _ vd 21 jt jf k _ h rfl (fun w' h'=>(jp_21n w0 w' M KB SB OB UB po m pcap p (pc+1) a x cs vd jt jf k h' hm hpc ua ux uk hjt hjf hq).mono fun e w2 h2=>⟨h2.1,.go (by rw [show kd 21=⟨21,11,0,false,0,10⟩ from rfl];simp only [fl,hq,Int.reduceEq,Int.reduceToNat,if_true,if_false,Bool.false_eq_true]) h2.2⟩))
 | true=>exact (do_c10 w0 w M KB SB OB UB _ _ vd 21 jt jf k _ h rfl (fun w' h'=>(jp_21y w0 w' M KB SB OB UB po m pcap p (pc+1) a x cs vd jt jf k h' hm hpc ua ux uk hjt hjf hq).mono fun e w2 h2=>⟨h2.1,.go (by rw [show kd 21=⟨21,11,0,false,0,10⟩ from rfl];simp only [fl,hq,Int.reduceEq,Int.reduceToNat,if_true,if_false,Bool.false_eq_true]) h2.2⟩))
theorem df_37 (w0 w:World) (M KB SB OB UB:Nat) (po:Option Addr) (m pcap:Nat) (p:Nat→Int) (pc:Nat) (a x:Int) (cs:Nat→Int) (vd jt jf k:Int) (h:QM w0 w M KB SB OB UB (.slice po m pcap) ⟨pc+1,a,x,cs⟩ false vd) (hm:m≤2000) (hpc:pc+1≤1000) (ua:U32 a) (ux:U32 x) (uk:U32 k) (hmc:m≤pcap) (hp:Oct p) (hsrc:Src w0 .u8 po m p) (hjt:0≤jt∧jt≤4294967295) (hjf:0≤jf∧jf≤4294967295) :
  Calls Tryz.prog 74 #[.pointer (some ⟨M,0,none⟩),.agg #[.int .i64 37,.int .i64 jt,.int .i64 jf,.int .i64 k]] w fun e w'=>e=.returned (.tuple #[])∧DPost w0 w' M KB SB OB UB (.slice po m pcap) vd (fl (kd 37) jt jf k p m ⟨pc,a,x,cs⟩):=by
 cases hq:askv 1 a k with
 | false=>exact (do_c10 w0 w M KB SB OB UB _ _ vd 37 jt jf k _ h rfl (fun w' h'=>(jp_37n w0 w' M KB SB OB UB po m pcap p (pc+1) a x cs vd jt jf k h' hm hpc ua ux uk hjt hjf hq).mono fun e w2 h2=>⟨h2.1,.go (by rw [show kd 37=⟨37,11,0,false,1,10⟩ from rfl];simp only [fl,hq,Int.reduceEq,Int.reduceToNat,if_true,if_false,Bool.false_eq_true]) h2.2⟩))
 | true=>exact (do_c10 w0 w M KB SB OB UB _ _ vd 37 jt jf k _ h rfl (fun w' h'=>(jp_37y w0 w' M KB SB OB UB po m pcap p (pc+1) a x cs vd jt jf k h' hm hpc ua ux uk hjt hjf hq).mono fun e w2 h2=>⟨h2.1,.go (by rw [show kd 37=⟨37,11,0,false,1,10⟩ from rfl];simp only [fl,hq,Int.reduceEq,Int.reduceToNat,if_true,if_false,Bool.false_eq_true]) h2.2⟩))
theorem df_53 (w0 w:World) (M KB SB OB UB:Nat) (po:Option Addr) (m pcap:Nat) (p:Nat→Int) (pc:Nat) (a x:Int) (cs:Nat→Int) (vd jt jf k:Int) (h:QM w0 w M KB SB OB UB (.slice po m pcap) ⟨pc+1,a,x,cs⟩ false vd) (hm:m≤2000) (hpc:pc+1≤1000) (ua:U32 a) (ux:U32 x) (uk:U32 k) (hmc:m≤pcap) (hp:Oct p) (hsrc:Src w0 .u8 po m p) (hjt:0≤jt∧jt≤4294967295) (hjf:0≤jf∧jf≤4294967295) :
  Calls Tryz.prog 74 #[.pointer (some ⟨M,0,none⟩),.agg #[.int .i64 53,.int .i64 jt,.int .i64 jf,.int .i64 k]] w fun e w'=>e=.returned (.tuple #[])∧DPost w0 w' M KB SB OB UB (.slice po m pcap) vd (fl (kd 53) jt jf k p m ⟨pc,a,x,cs⟩):=by
 cases hq:askv 2 a k with
 | false=>exact (do_c10 w0 w M KB SB OB UB _ _ vd 53 jt jf k _ h rfl (fun w' h'=>(jp_53n w0 w' M KB SB OB UB po m pcap p (pc+1) a x cs vd jt jf k h' hm hpc ua ux uk hjt hjf hq).mono fun e w2 h2=>⟨h2.1,.go (by rw [show kd 53=⟨53,11,0,false,2,10⟩ from rfl];simp only [fl,hq,Int.reduceEq,Int.reduceToNat,if_true,if_false,Bool.false_eq_true]) h2.2⟩))
 | true=>exact (do_c10 w0 w M KB SB OB UB _ _ vd 53 jt jf k _ h rfl (fun w' h'=>(jp_53y w0 w' M KB SB OB UB po m pcap p (pc+1) a x cs vd jt jf k h' hm hpc ua ux uk hjt hjf hq).mono fun e w2 h2=>⟨h2.1,.go (by rw [show kd 53=⟨53,11,0,false,2,10⟩ from rfl];simp only [fl,hq,Int.reduceEq,Int.reduceToNat,if_true,if_false,Bool.false_eq_true]) h2.2⟩))
theorem df_69 (w0 w:World) (M KB SB OB UB:Nat) (po:Option Addr) (m pcap:Nat) (p:Nat→Int) (pc:Nat) (a x:Int) (cs:Nat→Int) (vd jt jf k:Int) (h:QM w0 w M KB SB OB UB (.slice po m pcap) ⟨pc+1,a,x,cs⟩ false vd) (hm:m≤2000) (hpc:pc+1≤1000) (ua:U32 a) (ux:U32 x) (uk:U32 k) (hmc:m≤pcap) (hp:Oct p) (hsrc:Src w0 .u8 po m p) (hjt:0≤jt∧jt≤4294967295) (hjf:0≤jf∧jf≤4294967295) :
  Calls Tryz.prog 74 #[.pointer (some ⟨M,0,none⟩),.agg #[.int .i64 69,.int .i64 jt,.int .i64 jf,.int .i64 k]] w fun e w'=>e=.returned (.tuple #[])∧DPost w0 w' M KB SB OB UB (.slice po m pcap) vd (fl (kd 69) jt jf k p m ⟨pc,a,x,cs⟩):=by
 cases hq:askv 3 a k with
 | false=>exact (do_c10 w0 w M KB SB OB UB _ _ vd 69 jt jf k _ h rfl (fun w' h'=>(jp_69n w0 w' M KB SB OB UB po m pcap p (pc+1) a x cs vd jt jf k h' hm hpc ua ux uk hjt hjf hq).mono fun e w2 h2=>⟨h2.1,.go (by rw [show kd 69=⟨69,11,0,false,3,10⟩ from rfl];simp only [fl,hq,Int.reduceEq,Int.reduceToNat,if_true,if_false,Bool.false_eq_true]) h2.2⟩))
 | true=>exact (do_c10 w0 w M KB SB OB UB _ _ vd 69 jt jf k _ h rfl (fun w' h'=>(jp_69y w0 w' M KB SB OB UB po m pcap p (pc+1) a x cs vd jt jf k h' hm hpc ua ux uk hjt hjf hq).mono fun e w2 h2=>⟨h2.1,.go (by rw [show kd 69=⟨69,11,0,false,3,10⟩ from rfl];simp only [fl,hq,Int.reduceEq,Int.reduceToNat,if_true,if_false,Bool.false_eq_true]) h2.2⟩))
theorem df_29 (w0 w:World) (M KB SB OB UB:Nat) (po:Option Addr) (m pcap:Nat) (p:Nat→Int) (pc:Nat) (a x:Int) (cs:Nat→Int) (vd jt jf k:Int) (h:QM w0 w M KB SB OB UB (.slice po m pcap) ⟨pc+1,a,x,cs⟩ false vd) (hm:m≤2000) (hpc:pc+1≤1000) (ua:U32 a) (ux:U32 x) (uk:U32 k) (hmc:m≤pcap) (hp:Oct p) (hsrc:Src w0 .u8 po m p) (hjt:0≤jt∧jt≤4294967295) (hjf:0≤jf∧jf≤4294967295) :
  Calls Tryz.prog 74 #[.pointer (some ⟨M,0,none⟩),.agg #[.int .i64 29,.int .i64 jt,.int .i64 jf,.int .i64 k]] w fun e w'=>e=.returned (.tuple #[])∧DPost w0 w' M KB SB OB UB (.slice po m pcap) vd (fl (kd 29) jt jf k p m ⟨pc,a,x,cs⟩):=by
 cases hq:askv 0 a x with
 | false=>exact (do_c10 w0 w M KB SB OB UB _ _ vd 29 jt jf k _ h rfl (fun w' h'=>(jp_29n w0 w' M KB SB OB UB po m pcap p (pc+1) a x cs vd jt jf k h' hm hpc ua ux uk hjt hjf hq).mono fun e w2 h2=>⟨h2.1,.go (by rw [show kd 29=⟨29,11,0,true,0,10⟩ from rfl];simp only [fl,hq,Int.reduceEq,Int.reduceToNat,if_true,if_false,Bool.false_eq_true]) h2.2⟩))
 | true=>exact (do_c10 w0 w M KB SB OB UB _ _ vd 29 jt jf k _ h rfl (fun w' h'=>(jp_29y w0 w' M KB SB OB UB po m pcap p (pc+1) a x cs vd jt jf k h' hm hpc ua ux uk hjt hjf hq).mono fun e w2 h2=>⟨h2.1,.go (by rw [show kd 29=⟨29,11,0,true,0,10⟩ from rfl];simp only [fl,hq,Int.reduceEq,Int.reduceToNat,if_true,if_false,Bool.false_eq_true]) h2.2⟩))
theorem df_45 (w0 w:World) (M KB SB OB UB:Nat) (po:Option Addr) (m pcap:Nat) (p:Nat→Int) (pc:Nat) (a x:Int) (cs:Nat→Int) (vd jt jf k:Int) (h:QM w0 w M KB SB OB UB (.slice po m pcap) ⟨pc+1,a,x,cs⟩ false vd) (hm:m≤2000) (hpc:pc+1≤1000) (ua:U32 a) (ux:U32 x) (uk:U32 k) (hmc:m≤pcap) (hp:Oct p) (hsrc:Src w0 .u8 po m p) (hjt:0≤jt∧jt≤4294967295) (hjf:0≤jf∧jf≤4294967295) :
  Calls Tryz.prog 74 #[.pointer (some ⟨M,0,none⟩),.agg #[.int .i64 45,.int .i64 jt,.int .i64 jf,.int .i64 k]] w fun e w'=>e=.returned (.tuple #[])∧DPost w0 w' M KB SB OB UB (.slice po m pcap) vd (fl (kd 45) jt jf k p m ⟨pc,a,x,cs⟩):=by
 cases hq:askv 1 a x with
 | false=>exact (do_c10 w0 w M KB SB OB UB _ _ vd 45 jt jf k _ h rfl (fun w' h'=>(jp_45n w0 w' M KB SB OB UB po m pcap p (pc+1) a x cs vd jt jf k h' hm hpc ua ux uk hjt hjf hq).mono fun e w2 h2=>⟨h2.1,.go (by rw [show kd 45=⟨45,11,0,true,1,10⟩ from rfl];simp only [fl,hq,Int.reduceEq,Int.reduceToNat,if_true,if_false,Bool.false_eq_true]) h2.2⟩))
 | true=>exact (do_c10 w0 w M KB SB OB UB _ _ vd 45 jt jf k _ h rfl (fun w' h'=>(jp_45y w0 w' M KB SB OB UB po m pcap p (pc+1) a x cs vd jt jf k h' hm hpc ua ux uk hjt hjf hq).mono fun e w2 h2=>⟨h2.1,.go (by rw [show kd 45=⟨45,11,0,true,1,10⟩ from rfl];simp only [fl,hq,Int.reduceEq,Int.reduceToNat,if_true,if_false,Bool.false_eq_true]) h2.2⟩))
theorem df_61 (w0 w:World) (M KB SB OB UB:Nat) (po:Option Addr) (m pcap:Nat) (p:Nat→Int) (pc:Nat) (a x:Int) (cs:Nat→Int) (vd jt jf k:Int) (h:QM w0 w M KB SB OB UB (.slice po m pcap) ⟨pc+1,a,x,cs⟩ false vd) (hm:m≤2000) (hpc:pc+1≤1000) (ua:U32 a) (ux:U32 x) (uk:U32 k) (hmc:m≤pcap) (hp:Oct p) (hsrc:Src w0 .u8 po m p) (hjt:0≤jt∧jt≤4294967295) (hjf:0≤jf∧jf≤4294967295) :
  Calls Tryz.prog 74 #[.pointer (some ⟨M,0,none⟩),.agg #[.int .i64 61,.int .i64 jt,.int .i64 jf,.int .i64 k]] w fun e w'=>e=.returned (.tuple #[])∧DPost w0 w' M KB SB OB UB (.slice po m pcap) vd (fl (kd 61) jt jf k p m ⟨pc,a,x,cs⟩):=by
 cases hq:askv 2 a x with
 | false=>exact (do_c10 w0 w M KB SB OB UB _ _ vd 61 jt jf k _ h rfl (fun w' h'=>(jp_61n w0 w' M KB SB OB UB po m pcap p (pc+1) a x cs vd jt jf k h' hm hpc ua ux uk hjt hjf hq).mono fun e w2 h2=>⟨h2.1,.go (by rw [show kd 61=⟨61,11,0,true,2,10⟩ from rfl];simp only [fl,hq,Int.reduceEq,Int.reduceToNat,if_true,if_false,Bool.false_eq_true]) h2.2⟩))
 | true=>exact (do_c10 w0 w M KB SB OB UB _ _ vd 61 jt jf k _ h rfl (fun w' h'=>(jp_61y w0 w' M KB SB OB UB po m pcap p (pc+1) a x cs vd jt jf k h' hm hpc ua ux uk hjt hjf hq).mono fun e w2 h2=>⟨h2.1,.go (by rw [show kd 61=⟨61,11,0,true,2,10⟩ from rfl];simp only [fl,hq,Int.reduceEq,Int.reduceToNat,if_true,if_false,Bool.false_eq_true]) h2.2⟩))
theorem df_77 (w0 w:World) (M KB SB OB UB:Nat) (po:Option Addr) (m pcap:Nat) (p:Nat→Int) (pc:Nat) (a x:Int) (cs:Nat→Int) (vd jt jf k:Int) (h:QM w0 w M KB SB OB UB (.slice po m pcap) ⟨pc+1,a,x,cs⟩ false vd) (hm:m≤2000) (hpc:pc+1≤1000) (ua:U32 a) (ux:U32 x) (uk:U32 k) (hmc:m≤pcap) (hp:Oct p) (hsrc:Src w0 .u8 po m p) (hjt:0≤jt∧jt≤4294967295) (hjf:0≤jf∧jf≤4294967295) :
  Calls Tryz.prog 74 #[.pointer (some ⟨M,0,none⟩),.agg #[.int .i64 77,.int .i64 jt,.int .i64 jf,.int .i64 k]] w fun e w'=>e=.returned (.tuple #[])∧DPost w0 w' M KB SB OB UB (.slice po m pcap) vd (fl (kd 77) jt jf k p m ⟨pc,a,x,cs⟩):=by
 cases hq:askv 3 a x with
 | false=>exact (do_c10 w0 w M KB SB OB UB _ _ vd 77 jt jf k _ h rfl (fun w' h'=>(jp_77n w0 w' M KB SB OB UB po m pcap p (pc+1) a x cs vd jt jf k h' hm hpc ua ux uk hjt hjf hq).mono fun e w2 h2=>⟨h2.1,.go (by rw [show kd 77=⟨77,11,0,true,3,10⟩ from rfl];simp only [fl,hq,Int.reduceEq,Int.reduceToNat,if_true,if_false,Bool.false_eq_true]) h2.2⟩))
 | true=>exact (do_c10 w0 w M KB SB OB UB _ _ vd 77 jt jf k _ h rfl (fun w' h'=>(jp_77y w0 w' M KB SB OB UB po m pcap p (pc+1) a x cs vd jt jf k h' hm hpc ua ux uk hjt hjf hq).mono fun e w2 h2=>⟨h2.1,.go (by rw [show kd 77=⟨77,11,0,true,3,10⟩ from rfl];simp only [fl,hq,Int.reduceEq,Int.reduceToNat,if_true,if_false,Bool.false_eq_true]) h2.2⟩))
theorem df_any (w0 w:World) (M KB SB OB UB:Nat) (po:Option Addr) (m pcap:Nat) (p:Nat→Int) (pc:Nat) (a x:Int) (cs:Nat→Int) (vd jt jf k:Int) (h:QM w0 w M KB SB OB UB (.slice po m pcap) ⟨pc+1,a,x,cs⟩ false vd) (hm:m≤2000) (hpc:pc+1≤1000) (ua:U32 a) (ux:U32 x) (uk:U32 k) (hmc:m≤pcap) (hp:Oct p) (hsrc:Src w0 .u8 po m p) (hjt:0≤jt∧jt≤4294967295) (hjf:0≤jf∧jf≤4294967295) (C:Int) (hC:okk C=true) (k16:((kd C).kind=3∨(kd C).kind=6)→k<16) :
  Calls Tryz.prog 74 #[.pointer (some ⟨M,0,none⟩),.agg #[.int .i64 C,.int .i64 jt,.int .i64 jf,.int .i64 k]] w fun e w'=>e=.returned (.tuple #[])∧DPost w0 w' M KB SB OB UB (.slice po m pcap) vd (fl (kd C) jt jf k p m ⟨pc,a,x,cs⟩):=by
 rcases okk_cases hC with rfl | rfl | rfl | rfl | rfl | rfl | rfl | rfl | rfl | rfl | rfl | rfl | rfl | rfl | rfl | rfl | rfl | rfl | rfl | rfl | rfl | rfl | rfl | rfl | rfl | rfl | rfl | rfl | rfl | rfl | rfl | rfl | rfl | rfl | rfl | rfl | rfl | rfl | rfl | rfl | rfl | rfl | rfl | rfl | rfl | rfl | rfl | rfl | rfl
 ·exact df_32 w0 w M KB SB OB UB po m pcap p pc a x cs vd jt jf k h hm hpc ua ux uk hmc hp hsrc hjt hjf
 ·exact df_40 w0 w M KB SB OB UB po m pcap p pc a x cs vd jt jf k h hm hpc ua ux uk hmc hp hsrc hjt hjf
 ·exact df_48 w0 w M KB SB OB UB po m pcap p pc a x cs vd jt jf k h hm hpc ua ux uk hmc hp hsrc hjt hjf
 ·exact df_64 w0 w M KB SB OB UB po m pcap p pc a x cs vd jt jf k h hm hpc ua ux uk hmc hp hsrc hjt hjf
 ·exact df_72 w0 w M KB SB OB UB po m pcap p pc a x cs vd jt jf k h hm hpc ua ux uk hmc hp hsrc hjt hjf
 ·exact df_80 w0 w M KB SB OB UB po m pcap p pc a x cs vd jt jf k h hm hpc ua ux uk hmc hp hsrc hjt hjf
 ·exact df_0 w0 w M KB SB OB UB po m pcap p pc a x cs vd jt jf k h hm hpc ua ux uk hmc hp hsrc hjt hjf
 ·exact df_1 w0 w M KB SB OB UB po m pcap p pc a x cs vd jt jf k h hm hpc ua ux uk hmc hp hsrc hjt hjf
 ·exact df_96 w0 w M KB SB OB UB po m pcap p pc a x cs vd jt jf k h hm hpc ua ux uk hmc hp hsrc hjt hjf (k16 (Or.inl rfl))
 ·exact df_97 w0 w M KB SB OB UB po m pcap p pc a x cs vd jt jf k h hm hpc ua ux uk hmc hp hsrc hjt hjf (k16 (Or.inl rfl))
 ·exact df_128 w0 w M KB SB OB UB po m pcap p pc a x cs vd jt jf k h hm hpc ua ux uk hmc hp hsrc hjt hjf
 ·exact df_129 w0 w M KB SB OB UB po m pcap p pc a x cs vd jt jf k h hm hpc ua ux uk hmc hp hsrc hjt hjf
 ·exact df_177 w0 w M KB SB OB UB po m pcap p pc a x cs vd jt jf k h hm hpc ua ux uk hmc hp hsrc hjt hjf
 ·exact df_2 w0 w M KB SB OB UB po m pcap p pc a x cs vd jt jf k h hm hpc ua ux uk hmc hp hsrc hjt hjf (k16 (Or.inr rfl))
 ·exact df_3 w0 w M KB SB OB UB po m pcap p pc a x cs vd jt jf k h hm hpc ua ux uk hmc hp hsrc hjt hjf (k16 (Or.inr rfl))
 ·exact df_7 w0 w M KB SB OB UB po m pcap p pc a x cs vd jt jf k h hm hpc ua ux uk hmc hp hsrc hjt hjf
 ·exact df_135 w0 w M KB SB OB UB po m pcap p pc a x cs vd jt jf k h hm hpc ua ux uk hmc hp hsrc hjt hjf
 ·exact df_132 w0 w M KB SB OB UB po m pcap p pc a x cs vd jt jf k h hm hpc ua ux uk hmc hp hsrc hjt hjf
 ·exact df_5 w0 w M KB SB OB UB po m pcap p pc a x cs vd jt jf k h hm hpc ua ux uk hmc hp hsrc hjt hjf
 ·exact df_6 w0 w M KB SB OB UB po m pcap p pc a x cs vd jt jf k h hm hpc ua ux uk hmc hp hsrc hjt hjf
 ·exact df_22 w0 w M KB SB OB UB po m pcap p pc a x cs vd jt jf k h hm hpc ua ux uk hmc hp hsrc hjt hjf
 ·exact df_4 w0 w M KB SB OB UB po m pcap p pc a x cs vd jt jf k h hm hpc ua ux uk hmc hp hsrc hjt hjf
 ·exact df_20 w0 w M KB SB OB UB po m pcap p pc a x cs vd jt jf k h hm hpc ua ux uk hmc hp hsrc hjt hjf
 ·exact df_36 w0 w M KB SB OB UB po m pcap p pc a x cs vd jt jf k h hm hpc ua ux uk hmc hp hsrc hjt hjf
 ·exact df_52 w0 w M KB SB OB UB po m pcap p pc a x cs vd jt jf k h hm hpc ua ux uk hmc hp hsrc hjt hjf
 ·exact df_148 w0 w M KB SB OB UB po m pcap p pc a x cs vd jt jf k h hm hpc ua ux uk hmc hp hsrc hjt hjf
 ·exact df_68 w0 w M KB SB OB UB po m pcap p pc a x cs vd jt jf k h hm hpc ua ux uk hmc hp hsrc hjt hjf
 ·exact df_84 w0 w M KB SB OB UB po m pcap p pc a x cs vd jt jf k h hm hpc ua ux uk hmc hp hsrc hjt hjf
 ·exact df_164 w0 w M KB SB OB UB po m pcap p pc a x cs vd jt jf k h hm hpc ua ux uk hmc hp hsrc hjt hjf
 ·exact df_100 w0 w M KB SB OB UB po m pcap p pc a x cs vd jt jf k h hm hpc ua ux uk hmc hp hsrc hjt hjf
 ·exact df_116 w0 w M KB SB OB UB po m pcap p pc a x cs vd jt jf k h hm hpc ua ux uk hmc hp hsrc hjt hjf
 ·exact df_12 w0 w M KB SB OB UB po m pcap p pc a x cs vd jt jf k h hm hpc ua ux uk hmc hp hsrc hjt hjf
 ·exact df_28 w0 w M KB SB OB UB po m pcap p pc a x cs vd jt jf k h hm hpc ua ux uk hmc hp hsrc hjt hjf
 ·exact df_44 w0 w M KB SB OB UB po m pcap p pc a x cs vd jt jf k h hm hpc ua ux uk hmc hp hsrc hjt hjf
 ·exact df_60 w0 w M KB SB OB UB po m pcap p pc a x cs vd jt jf k h hm hpc ua ux uk hmc hp hsrc hjt hjf
 ·exact df_156 w0 w M KB SB OB UB po m pcap p pc a x cs vd jt jf k h hm hpc ua ux uk hmc hp hsrc hjt hjf
 ·exact df_76 w0 w M KB SB OB UB po m pcap p pc a x cs vd jt jf k h hm hpc ua ux uk hmc hp hsrc hjt hjf
 ·exact df_92 w0 w M KB SB OB UB po m pcap p pc a x cs vd jt jf k h hm hpc ua ux uk hmc hp hsrc hjt hjf
 ·exact df_172 w0 w M KB SB OB UB po m pcap p pc a x cs vd jt jf k h hm hpc ua ux uk hmc hp hsrc hjt hjf
 ·exact df_108 w0 w M KB SB OB UB po m pcap p pc a x cs vd jt jf k h hm hpc ua ux uk hmc hp hsrc hjt hjf
 ·exact df_124 w0 w M KB SB OB UB po m pcap p pc a x cs vd jt jf k h hm hpc ua ux uk hmc hp hsrc hjt hjf
 ·exact df_21 w0 w M KB SB OB UB po m pcap p pc a x cs vd jt jf k h hm hpc ua ux uk hmc hp hsrc hjt hjf
 ·exact df_37 w0 w M KB SB OB UB po m pcap p pc a x cs vd jt jf k h hm hpc ua ux uk hmc hp hsrc hjt hjf
 ·exact df_53 w0 w M KB SB OB UB po m pcap p pc a x cs vd jt jf k h hm hpc ua ux uk hmc hp hsrc hjt hjf
 ·exact df_69 w0 w M KB SB OB UB po m pcap p pc a x cs vd jt jf k h hm hpc ua ux uk hmc hp hsrc hjt hjf
 ·exact df_29 w0 w M KB SB OB UB po m pcap p pc a x cs vd jt jf k h hm hpc ua ux uk hmc hp hsrc hjt hjf
 ·exact df_45 w0 w M KB SB OB UB po m pcap p pc a x cs vd jt jf k h hm hpc ua ux uk hmc hp hsrc hjt hjf
 ·exact df_61 w0 w M KB SB OB UB po m pcap p pc a x cs vd jt jf k h hm hpc ua ux uk hmc hp hsrc hjt hjf
 ·exact df_77 w0 w M KB SB OB UB po m pcap p pc a x cs vd jt jf k h hm hpc ua ux uk hmc hp hsrc hjt hjf
end Go.Proofs.YthbcfepbkkbjiaaGreatDoor
