import Derived.Laws.Tables
import Derived.Deep.WholeRow
import Derived.Great.Walk
import Derived.Test.YthbcfepbkkbjiaaGreatDoorID1
import Derived.Test.YthbcfepbkkbjiaaGreatDoorIDG
import Derived.Test.YthbcfepbkkbjiaaGreatDoorIDI
import Derived.Test.YthbcfepbkkbjiaaGreatDoorIDK
import Derived.Test.YthbcfepbkkbjiaaGreatDoorIDM
import Derived.Test.YthbcfepbkkbjiaaGreatDoorIDO
import Derived.Test.YthbcfepbkkbjiaaGreatDoorIRO
import Derived.Test.YthbcfepbkkbjiaaGreatDoorIA8
import Derived.Test.YthbcfepbkkbjiaaGreatDoorIF5
set_option linter.unusedSimpArgs false
set_option linter.unusedVariables false
set_option maxRecDepth 100000
namespace Go.Proofs.YthbcfepbkkbjiaaGreatDoor
open Go.RowKit
set_option maxHeartbeats 1000000 in
theorem add_c1 (w0 w:World) (M KB SB OB UB:Nat) (cv sv gv:Value) (l ss:List Int) (gs:List (Int × Int)) (C jt jf k:Int) (Post:World→Prop) (h:CM w0 w M KB SB OB UB cv sv gv l ss gs) (hc:(kd C).cls=1)
  (HA:∀ w',CM w0 w' M KB SB OB UB cv sv gv l ss gs→Calls Tryz.prog 112 #[.pointer (some ⟨M,0,none⟩),.agg #[.int .i64 C,.int .i64 jt,.int .i64 jf,.int .i64 k]] w' fun e w''=>e=.returned (.tuple #[])∧Post w'') :
  Calls Tryz.prog 76 #[.pointer (some ⟨M,0,none⟩),.agg #[.int .i64 C,.int .i64 jt,.int .i64 jf,.int .i64 k]] w fun e w'=>e=.returned (.tuple #[])∧Post w':=by
 obtain ⟨c0,c1,c2,c3,c4,c5,c6⟩:=h.cells
 have lM:=h.m.lt
 have HH:Hid (CM w0 w M KB SB OB UB cv sv gv l ss gs):=h
 have hl:∀ d,(Instr.lookup 123 (.map (some KB)) (.int .i64 C) false).run Tryz.prog ((w.alloc (.cells #[.int .i64 C,.int .i64 jt,.int .i64 jf,.int .i64 k] 63)).drewN d)=.ok (.int .i64 1) ((w.alloc (.cells #[.int .i64 C,.int .i64 jt,.int .i64 jf,.int .i64 k] 63)).drewN d):=fun d=>clook_kd ((h.allo _).drewN d).ik hc
 have hl0:=hl 0
 have HB:Hid _:=HA
 clear h hc HA
 go_enter Tryz.func76,Tryz.ntmps76
 go_wp2
 go_quiet (fail)
 go_wp2_with (go_at_call 112;refine (HB.out _ (by repeat (first | exact HH.out | refine CM.drew ?_ | refine CM.drewN ?_ _ | refine CM.allo ?_ _))).mono ?_;rintro e w1 ⟨rfl,h1⟩)
 go_end0
 exact ⟨rfl,h1⟩
set_option maxHeartbeats 1000000 in
theorem add_c2 (w0 w:World) (M KB SB OB UB:Nat) (cv sv gv:Value) (l ss:List Int) (gs:List (Int × Int)) (C jt jf k:Int) (Post:World→Prop) (h:CM w0 w M KB SB OB UB cv sv gv l ss gs) (hc:(kd C).cls=2)
  (HA:∀ w',CM w0 w' M KB SB OB UB cv sv gv l ss gs→Calls Tryz.prog 113 #[.pointer (some ⟨M,0,none⟩),.agg #[.int .i64 C,.int .i64 jt,.int .i64 jf,.int .i64 k]] w' fun e w''=>e=.returned (.tuple #[])∧Post w'') :
  Calls Tryz.prog 76 #[.pointer (some ⟨M,0,none⟩),.agg #[.int .i64 C,.int .i64 jt,.int .i64 jf,.int .i64 k]] w fun e w'=>e=.returned (.tuple #[])∧Post w':=by
 obtain ⟨c0,c1,c2,c3,c4,c5,c6⟩:=h.cells
 have lM:=h.m.lt
 have HH:Hid (CM w0 w M KB SB OB UB cv sv gv l ss gs):=h
 have hl:∀ d,(Instr.lookup 123 (.map (some KB)) (.int .i64 C) false).run Tryz.prog ((w.alloc (.cells #[.int .i64 C,.int .i64 jt,.int .i64 jf,.int .i64 k] 63)).drewN d)=.ok (.int .i64 2) ((w.alloc (.cells #[.int .i64 C,.int .i64 jt,.int .i64 jf,.int .i64 k] 63)).drewN d):=fun d=>clook_kd ((h.allo _).drewN d).ik hc
 have hl0:=hl 0
 have HB:Hid _:=HA
 clear h hc HA
 go_enter Tryz.func76,Tryz.ntmps76
 go_wp2
 go_quiet (fail)
 go_wp2_with (go_at_call 113;refine (HB.out _ (by repeat (first | exact HH.out | refine CM.drew ?_ | refine CM.drewN ?_ _ | refine CM.allo ?_ _))).mono ?_;rintro e w1 ⟨rfl,h1⟩)
 go_end0
 exact ⟨rfl,h1⟩
set_option maxHeartbeats 1000000 in
theorem add_c3 (w0 w:World) (M KB SB OB UB:Nat) (cv sv gv:Value) (l ss:List Int) (gs:List (Int × Int)) (C jt jf k:Int) (Post:World→Prop) (h:CM w0 w M KB SB OB UB cv sv gv l ss gs) (hc:(kd C).cls=3)
  (HA:∀ w',CM w0 w' M KB SB OB UB cv sv gv l ss gs→Calls Tryz.prog 113 #[.pointer (some ⟨M,0,none⟩),.agg #[.int .i64 C,.int .i64 jt,.int .i64 jf,.int .i64 k]] w' fun e w''=>e=.returned (.tuple #[])∧Post w'') :
  Calls Tryz.prog 76 #[.pointer (some ⟨M,0,none⟩),.agg #[.int .i64 C,.int .i64 jt,.int .i64 jf,.int .i64 k]] w fun e w'=>e=.returned (.tuple #[])∧Post w':=by
 obtain ⟨c0,c1,c2,c3,c4,c5,c6⟩:=h.cells
 have lM:=h.m.lt
 have HH:Hid (CM w0 w M KB SB OB UB cv sv gv l ss gs):=h
 have hl:∀ d,(Instr.lookup 123 (.map (some KB)) (.int .i64 C) false).run Tryz.prog ((w.alloc (.cells #[.int .i64 C,.int .i64 jt,.int .i64 jf,.int .i64 k] 63)).drewN d)=.ok (.int .i64 3) ((w.alloc (.cells #[.int .i64 C,.int .i64 jt,.int .i64 jf,.int .i64 k] 63)).drewN d):=fun d=>clook_kd ((h.allo _).drewN d).ik hc
 have hl0:=hl 0
 have HB:Hid _:=HA
 clear h hc HA
 go_enter Tryz.func76,Tryz.ntmps76
 go_wp2
 go_quiet (fail)
 go_wp2_with (go_at_call 113;refine (HB.out _ (by repeat (first | exact HH.out | refine CM.drew ?_ | refine CM.drewN ?_ _ | refine CM.allo ?_ _))).mono ?_;rintro e w1 ⟨rfl,h1⟩)
 go_end0
 exact ⟨rfl,h1⟩
set_option maxHeartbeats 1000000 in
theorem add_c4 (w0 w:World) (M KB SB OB UB:Nat) (cv sv gv:Value) (l ss:List Int) (gs:List (Int × Int)) (C jt jf k:Int) (Post:World→Prop) (h:CM w0 w M KB SB OB UB cv sv gv l ss gs) (hc:(kd C).cls=4)
  (HA:∀ w',CM w0 w' M KB SB OB UB cv sv gv l ss gs→Calls Tryz.prog 114 #[.pointer (some ⟨M,0,none⟩),.agg #[.int .i64 C,.int .i64 jt,.int .i64 jf,.int .i64 k]] w' fun e w''=>e=.returned (.tuple #[])∧Post w'') :
  Calls Tryz.prog 76 #[.pointer (some ⟨M,0,none⟩),.agg #[.int .i64 C,.int .i64 jt,.int .i64 jf,.int .i64 k]] w fun e w'=>e=.returned (.tuple #[])∧Post w':=by
 obtain ⟨c0,c1,c2,c3,c4,c5,c6⟩:=h.cells
 have lM:=h.m.lt
 have HH:Hid (CM w0 w M KB SB OB UB cv sv gv l ss gs):=h
 have hl:∀ d,(Instr.lookup 123 (.map (some KB)) (.int .i64 C) false).run Tryz.prog ((w.alloc (.cells #[.int .i64 C,.int .i64 jt,.int .i64 jf,.int .i64 k] 63)).drewN d)=.ok (.int .i64 4) ((w.alloc (.cells #[.int .i64 C,.int .i64 jt,.int .i64 jf,.int .i64 k] 63)).drewN d):=fun d=>clook_kd ((h.allo _).drewN d).ik hc
 have hl0:=hl 0
 have HB:Hid _:=HA
 clear h hc HA
 go_enter Tryz.func76,Tryz.ntmps76
 go_wp2
 go_quiet (fail)
 go_wp2_with (go_at_call 114;refine (HB.out _ (by repeat (first | exact HH.out | refine CM.drew ?_ | refine CM.drewN ?_ _ | refine CM.allo ?_ _))).mono ?_;rintro e w1 ⟨rfl,h1⟩)
 go_end0
 exact ⟨rfl,h1⟩
set_option maxHeartbeats 1000000 in
theorem add_c5 (w0 w:World) (M KB SB OB UB:Nat) (cv sv gv:Value) (l ss:List Int) (gs:List (Int × Int)) (C jt jf k:Int) (Post:World→Prop) (h:CM w0 w M KB SB OB UB cv sv gv l ss gs) (hc:(kd C).cls=5)
  (HA:∀ w',CM w0 w' M KB SB OB UB cv sv gv l ss gs→Calls Tryz.prog 114 #[.pointer (some ⟨M,0,none⟩),.agg #[.int .i64 C,.int .i64 jt,.int .i64 jf,.int .i64 k]] w' fun e w''=>e=.returned (.tuple #[])∧Post w'') :
  Calls Tryz.prog 76 #[.pointer (some ⟨M,0,none⟩),.agg #[.int .i64 C,.int .i64 jt,.int .i64 jf,.int .i64 k]] w fun e w'=>e=.returned (.tuple #[])∧Post w':=by
 obtain ⟨c0,c1,c2,c3,c4,c5,c6⟩:=h.cells
 have lM:=h.m.lt
 have HH:Hid (CM w0 w M KB SB OB UB cv sv gv l ss gs):=h
 have hl:∀ d,(Instr.lookup 123 (.map (some KB)) (.int .i64 C) false).run Tryz.prog ((w.alloc (.cells #[.int .i64 C,.int .i64 jt,.int .i64 jf,.int .i64 k] 63)).drewN d)=.ok (.int .i64 5) ((w.alloc (.cells #[.int .i64 C,.int .i64 jt,.int .i64 jf,.int .i64 k] 63)).drewN d):=fun d=>clook_kd ((h.allo _).drewN d).ik hc
 have hl0:=hl 0
 have HB:Hid _:=HA
 clear h hc HA
 go_enter Tryz.func76,Tryz.ntmps76
 go_wp2
 go_quiet (fail)
 go_wp2_with (go_at_call 114;refine (HB.out _ (by repeat (first | exact HH.out | refine CM.drew ?_ | refine CM.drewN ?_ _ | refine CM.allo ?_ _))).mono ?_;rintro e w1 ⟨rfl,h1⟩)
 go_end0
 exact ⟨rfl,h1⟩
set_option maxHeartbeats 1000000 in
theorem add_c6 (w0 w:World) (M KB SB OB UB:Nat) (cv sv gv:Value) (l ss:List Int) (gs:List (Int × Int)) (C jt jf k:Int) (Post:World→Prop) (h:CM w0 w M KB SB OB UB cv sv gv l ss gs) (hc:(kd C).cls=6)
  (HA:∀ w',CM w0 w' M KB SB OB UB cv sv gv l ss gs→Calls Tryz.prog 115 #[.pointer (some ⟨M,0,none⟩),.agg #[.int .i64 C,.int .i64 jt,.int .i64 jf,.int .i64 k]] w' fun e w''=>e=.returned (.tuple #[])∧Post w'') :
  Calls Tryz.prog 76 #[.pointer (some ⟨M,0,none⟩),.agg #[.int .i64 C,.int .i64 jt,.int .i64 jf,.int .i64 k]] w fun e w'=>e=.returned (.tuple #[])∧Post w':=by
 obtain ⟨c0,c1,c2,c3,c4,c5,c6⟩:=h.cells
 have lM:=h.m.lt
 have HH:Hid (CM w0 w M KB SB OB UB cv sv gv l ss gs):=h
 have hl:∀ d,(Instr.lookup 123 (.map (some KB)) (.int .i64 C) false).run Tryz.prog ((w.alloc (.cells #[.int .i64 C,.int .i64 jt,.int .i64 jf,.int .i64 k] 63)).drewN d)=.ok (.int .i64 6) ((w.alloc (.cells #[.int .i64 C,.int .i64 jt,.int .i64 jf,.int .i64 k] 63)).drewN d):=fun d=>clook_kd ((h.allo _).drewN d).ik hc
 have hl0:=hl 0
 have HB:Hid _:=HA
 clear h hc HA
 go_enter Tryz.func76,Tryz.ntmps76
 go_wp2
 go_quiet (fail)
 go_wp2_with (go_at_call 115;refine (HB.out _ (by repeat (first | exact HH.out | refine CM.drew ?_ | refine CM.drewN ?_ _ | refine CM.allo ?_ _))).mono ?_;rintro e w1 ⟨rfl,h1⟩)
 go_end0
 exact ⟨rfl,h1⟩
set_option maxHeartbeats 1000000 in
theorem add_c7 (w0 w:World) (M KB SB OB UB:Nat) (cv sv gv:Value) (l ss:List Int) (gs:List (Int × Int)) (C jt jf k:Int) (Post:World→Prop) (h:CM w0 w M KB SB OB UB cv sv gv l ss gs) (hc:(kd C).cls=7)
  (HA:∀ w',CM w0 w' M KB SB OB UB cv sv gv l ss gs→Calls Tryz.prog 115 #[.pointer (some ⟨M,0,none⟩),.agg #[.int .i64 C,.int .i64 jt,.int .i64 jf,.int .i64 k]] w' fun e w''=>e=.returned (.tuple #[])∧Post w'') :
  Calls Tryz.prog 76 #[.pointer (some ⟨M,0,none⟩),.agg #[.int .i64 C,.int .i64 jt,.int .i64 jf,.int .i64 k]] w fun e w'=>e=.returned (.tuple #[])∧Post w':=by
 obtain ⟨c0,c1,c2,c3,c4,c5,c6⟩:=h.cells
 have lM:=h.m.lt
 have HH:Hid (CM w0 w M KB SB OB UB cv sv gv l ss gs):=h
 have hl:∀ d,(Instr.lookup 123 (.map (some KB)) (.int .i64 C) false).run Tryz.prog ((w.alloc (.cells #[.int .i64 C,.int .i64 jt,.int .i64 jf,.int .i64 k] 63)).drewN d)=.ok (.int .i64 7) ((w.alloc (.cells #[.int .i64 C,.int .i64 jt,.int .i64 jf,.int .i64 k] 63)).drewN d):=fun d=>clook_kd ((h.allo _).drewN d).ik hc
 have hl0:=hl 0
 have HB:Hid _:=HA
 clear h hc HA
 go_enter Tryz.func76,Tryz.ntmps76
 go_wp2
 go_quiet (fail)
 go_wp2_with (go_at_call 115;refine (HB.out _ (by repeat (first | exact HH.out | refine CM.drew ?_ | refine CM.drewN ?_ _ | refine CM.allo ?_ _))).mono ?_;rintro e w1 ⟨rfl,h1⟩)
 go_end0
 exact ⟨rfl,h1⟩
set_option maxHeartbeats 1000000 in
theorem add_c8 (w0 w:World) (M KB SB OB UB:Nat) (cv sv gv:Value) (l ss:List Int) (gs:List (Int × Int)) (C jt jf k:Int) (Post:World→Prop) (h:CM w0 w M KB SB OB UB cv sv gv l ss gs) (hc:(kd C).cls=8)
  (HA:∀ w',CM w0 w' M KB SB OB UB cv sv gv l ss gs→Calls Tryz.prog 115 #[.pointer (some ⟨M,0,none⟩),.agg #[.int .i64 C,.int .i64 jt,.int .i64 jf,.int .i64 k]] w' fun e w''=>e=.returned (.tuple #[])∧Post w'') :
  Calls Tryz.prog 76 #[.pointer (some ⟨M,0,none⟩),.agg #[.int .i64 C,.int .i64 jt,.int .i64 jf,.int .i64 k]] w fun e w'=>e=.returned (.tuple #[])∧Post w':=by
 obtain ⟨c0,c1,c2,c3,c4,c5,c6⟩:=h.cells
 have lM:=h.m.lt
 have HH:Hid (CM w0 w M KB SB OB UB cv sv gv l ss gs):=h
 have hl:∀ d,(Instr.lookup 123 (.map (some KB)) (.int .i64 C) false).run Tryz.prog ((w.alloc (.cells #[.int .i64 C,.int .i64 jt,.int .i64 jf,.int .i64 k] 63)).drewN d)=.ok (.int .i64 8) ((w.alloc (.cells #[.int .i64 C,.int .i64 jt,.int .i64 jf,.int .i64 k] 63)).drewN d):=fun d=>clook_kd ((h.allo _).drewN d).ik hc
 have hl0:=hl 0
 have HB:Hid _:=HA
 clear h hc HA
 go_enter Tryz.func76,Tryz.ntmps76
 go_wp2
 go_quiet (fail)
 go_wp2_with (go_at_call 115;refine (HB.out _ (by repeat (first | exact HH.out | refine CM.drew ?_ | refine CM.drewN ?_ _ | refine CM.allo ?_ _))).mono ?_;rintro e w1 ⟨rfl,h1⟩)
 go_end0
 exact ⟨rfl,h1⟩
set_option maxHeartbeats 1000000 in
theorem add_c9 (w0 w:World) (M KB SB OB UB:Nat) (cv sv gv:Value) (l ss:List Int) (gs:List (Int × Int)) (C jt jf k:Int) (Post:World→Prop) (h:CM w0 w M KB SB OB UB cv sv gv l ss gs) (hc:(kd C).cls=9)
  (HA:∀ w',CM w0 w' M KB SB OB UB cv sv gv l ss gs→Calls Tryz.prog 116 #[.pointer (some ⟨M,0,none⟩),.agg #[.int .i64 C,.int .i64 jt,.int .i64 jf,.int .i64 k]] w' fun e w''=>e=.returned (.tuple #[])∧Post w'') :
  Calls Tryz.prog 76 #[.pointer (some ⟨M,0,none⟩),.agg #[.int .i64 C,.int .i64 jt,.int .i64 jf,.int .i64 k]] w fun e w'=>e=.returned (.tuple #[])∧Post w':=by
 obtain ⟨c0,c1,c2,c3,c4,c5,c6⟩:=h.cells
 have lM:=h.m.lt
 have HH:Hid (CM w0 w M KB SB OB UB cv sv gv l ss gs):=h
 have hl:∀ d,(Instr.lookup 123 (.map (some KB)) (.int .i64 C) false).run Tryz.prog ((w.alloc (.cells #[.int .i64 C,.int .i64 jt,.int .i64 jf,.int .i64 k] 63)).drewN d)=.ok (.int .i64 9) ((w.alloc (.cells #[.int .i64 C,.int .i64 jt,.int .i64 jf,.int .i64 k] 63)).drewN d):=fun d=>clook_kd ((h.allo _).drewN d).ik hc
 have hl0:=hl 0
 have HB:Hid _:=HA
 clear h hc HA
 go_enter Tryz.func76,Tryz.ntmps76
 go_wp2
 go_quiet (fail)
 go_wp2_with (go_at_call 116;refine (HB.out _ (by repeat (first | exact HH.out | refine CM.drew ?_ | refine CM.drewN ?_ _ | refine CM.allo ?_ _))).mono ?_;rintro e w1 ⟨rfl,h1⟩)
 go_end0
 exact ⟨rfl,h1⟩
set_option maxHeartbeats 1000000 in
theorem add_c10 (w0 w:World) (M KB SB OB UB:Nat) (cv sv gv:Value) (l ss:List Int) (gs:List (Int × Int)) (C jt jf k:Int) (Post:World→Prop) (h:CM w0 w M KB SB OB UB cv sv gv l ss gs) (hc:(kd C).cls=10)
  (HA:∀ w',CM w0 w' M KB SB OB UB cv sv gv l ss gs→Calls Tryz.prog 116 #[.pointer (some ⟨M,0,none⟩),.agg #[.int .i64 C,.int .i64 jt,.int .i64 jf,.int .i64 k]] w' fun e w''=>e=.returned (.tuple #[])∧Post w'') :
  Calls Tryz.prog 76 #[.pointer (some ⟨M,0,none⟩),.agg #[.int .i64 C,.int .i64 jt,.int .i64 jf,.int .i64 k]] w fun e w'=>e=.returned (.tuple #[])∧Post w':=by
 obtain ⟨c0,c1,c2,c3,c4,c5,c6⟩:=h.cells
 have lM:=h.m.lt
 have HH:Hid (CM w0 w M KB SB OB UB cv sv gv l ss gs):=h
 have hl:∀ d,(Instr.lookup 123 (.map (some KB)) (.int .i64 C) false).run Tryz.prog ((w.alloc (.cells #[.int .i64 C,.int .i64 jt,.int .i64 jf,.int .i64 k] 63)).drewN d)=.ok (.int .i64 10) ((w.alloc (.cells #[.int .i64 C,.int .i64 jt,.int .i64 jf,.int .i64 k] 63)).drewN d):=fun d=>clook_kd ((h.allo _).drewN d).ik hc
 have hl0:=hl 0
 have HB:Hid _:=HA
 clear h hc HA
 go_enter Tryz.func76,Tryz.ntmps76
 go_wp2
 go_quiet (fail)
 go_wp2_with (go_at_call 116;refine (HB.out _ (by repeat (first | exact HH.out | refine CM.drew ?_ | refine CM.drewN ?_ _ | refine CM.allo ?_ _))).mono ?_;rintro e w1 ⟨rfl,h1⟩)
 go_end0
 exact ⟨rfl,h1⟩
set_option maxHeartbeats 1000000 in
theorem add_c11 (w0 w:World) (M KB SB OB UB:Nat) (cv sv gv:Value) (l ss:List Int) (gs:List (Int × Int)) (C jt jf k:Int) (Post:World→Prop) (h:CM w0 w M KB SB OB UB cv sv gv l ss gs) (hc:(kd C).cls=11)
  (HA:∀ w',CM w0 w' M KB SB OB UB cv sv gv l ss gs→Calls Tryz.prog 117 #[.pointer (some ⟨M,0,none⟩),.agg #[.int .i64 C,.int .i64 jt,.int .i64 jf,.int .i64 k]] w' fun e w''=>e=.returned (.tuple #[])∧Post w'') :
  Calls Tryz.prog 76 #[.pointer (some ⟨M,0,none⟩),.agg #[.int .i64 C,.int .i64 jt,.int .i64 jf,.int .i64 k]] w fun e w'=>e=.returned (.tuple #[])∧Post w':=by
 obtain ⟨c0,c1,c2,c3,c4,c5,c6⟩:=h.cells
 have lM:=h.m.lt
 have HH:Hid (CM w0 w M KB SB OB UB cv sv gv l ss gs):=h
 have hl:∀ d,(Instr.lookup 123 (.map (some KB)) (.int .i64 C) false).run Tryz.prog ((w.alloc (.cells #[.int .i64 C,.int .i64 jt,.int .i64 jf,.int .i64 k] 63)).drewN d)=.ok (.int .i64 11) ((w.alloc (.cells #[.int .i64 C,.int .i64 jt,.int .i64 jf,.int .i64 k] 63)).drewN d):=fun d=>clook_kd ((h.allo _).drewN d).ik hc
 have hl0:=hl 0
 have HB:Hid _:=HA
 clear h hc HA
 go_enter Tryz.func76,Tryz.ntmps76
 go_wp2
 go_quiet (fail)
 go_wp2_with (go_at_call 117;refine (HB.out _ (by repeat (first | exact HH.out | refine CM.drew ?_ | refine CM.drewN ?_ _ | refine CM.allo ?_ _))).mono ?_;rintro e w1 ⟨rfl,h1⟩)
 go_end0
 exact ⟨rfl,h1⟩
end Go.Proofs.YthbcfepbkkbjiaaGreatDoor
namespace Go.Proofs.YthbcfepbkkbjiaaGreatDoor
open Go.RowKit
def gp (r:KR) (L S jt jf k:Int):List (Int × Int) :=
 if r.kind=10 then [(L+plen r,S+k)] else if r.kind=11 then [(L+plen r-3,S+jt),(L+plen r,S+jf)] else []
def APost (w0 w':World) (M KB SB OB UB:Nat) (sv:Value) (l ss:List Int) (gs:List (Int × Int)):Prop:=∃ cv gv,CM w0 w' M KB SB OB UB cv sv gv l ss gs
theorem okk_casesC {C:Int} (h:okk C=true):C=32∨C=40∨C=48∨C=64∨C=72∨C=80∨C=0∨C=1∨C=96∨C=97∨C=128∨C=129∨C=177∨C=2∨C=3∨C=7∨C=135∨C=132∨C=5∨C=6∨C=22∨C=4∨C=20∨C=36∨C=52∨C=148∨C=68∨C=84∨C=164∨C=100∨C=116∨C=12∨C=28∨C=44∨C=60∨C=156∨C=76∨C=92∨C=172∨C=108∨C=124∨C=21∨C=37∨C=53∨C=69∨C=29∨C=45∨C=61∨C=77:=by
 have hc:=kd_code C
 have:(kd C) ∈ tab:=by
  unfold okk at h
  unfold kd at *
  cases e:look C with
  | none=>rw [e] at h;cases h
  | some r=>exact List.mem_of_find?_eq_some e
 generalize kd C=r at *
 simp only [tab,List.mem_cons,List.not_mem_nil,or_false] at this
 rcases this with rfl | rfl | rfl | rfl | rfl | rfl | rfl | rfl | rfl | rfl | rfl | rfl | rfl | rfl | rfl | rfl | rfl | rfl | rfl | rfl | rfl | rfl | rfl | rfl | rfl | rfl | rfl | rfl | rfl | rfl | rfl | rfl | rfl | rfl | rfl | rfl | rfl | rfl | rfl | rfl | rfl | rfl | rfl | rfl | rfl | rfl | rfl | rfl | rfl <;> (subst hc;decide)
theorem ca_32 (w0 w:World) (M KB SB OB UB:Nat) (cv sv gv:Value) (l ss:List Int) (gs:List (Int × Int)) (jt jf k:Int) (h:CM w0 w M KB SB OB UB cv sv gv l ss gs) (hl:l.length≤80000) (uk:U32 k) (hs:ss.length≤1000) (hs1:1≤ss.length) (hgs:gs.length≤9000) (hjt:0≤jt∧jt≤4294967295) (hjf:0≤jf∧jf≤4294967295) :
  Calls Tryz.prog 76 #[.pointer (some ⟨M,0,none⟩),.agg #[.int .i64 32,.int .i64 jt,.int .i64 jf,.int .i64 k]] w fun e w'=>e=.returned (.tuple #[])∧APost w0 w' M KB SB OB UB sv (l++piece (kd 32) k 0 0) ss (gs++gp (kd 32) l.length ss.length jt jf k):=by
 have e:gp (kd 32) l.length ss.length jt jf k=[]:=rfl
 rw [e,List.append_nil]
 exact add_c1 w0 w M KB SB OB UB cv sv gv l ss gs 32 jt jf k _ h rfl (fun w' h'=>(cf_32 w0 w' M KB SB OB UB cv sv gv l ss gs jt jf k h' hl uk).mono fun e w2 ⟨h1,cv2,h2⟩=>⟨h1,cv2,gv,h2⟩)
theorem ca_40 (w0 w:World) (M KB SB OB UB:Nat) (cv sv gv:Value) (l ss:List Int) (gs:List (Int × Int)) (jt jf k:Int) (h:CM w0 w M KB SB OB UB cv sv gv l ss gs) (hl:l.length≤80000) (uk:U32 k) (hs:ss.length≤1000) (hs1:1≤ss.length) (hgs:gs.length≤9000) (hjt:0≤jt∧jt≤4294967295) (hjf:0≤jf∧jf≤4294967295) :
  Calls Tryz.prog 76 #[.pointer (some ⟨M,0,none⟩),.agg #[.int .i64 40,.int .i64 jt,.int .i64 jf,.int .i64 k]] w fun e w'=>e=.returned (.tuple #[])∧APost w0 w' M KB SB OB UB sv (l++piece (kd 40) k 0 0) ss (gs++gp (kd 40) l.length ss.length jt jf k):=by
 have e:gp (kd 40) l.length ss.length jt jf k=[]:=rfl
 rw [e,List.append_nil]
 exact add_c1 w0 w M KB SB OB UB cv sv gv l ss gs 40 jt jf k _ h rfl (fun w' h'=>(cf_40 w0 w' M KB SB OB UB cv sv gv l ss gs jt jf k h' hl uk).mono fun e w2 ⟨h1,cv2,h2⟩=>⟨h1,cv2,gv,h2⟩)
theorem ca_48 (w0 w:World) (M KB SB OB UB:Nat) (cv sv gv:Value) (l ss:List Int) (gs:List (Int × Int)) (jt jf k:Int) (h:CM w0 w M KB SB OB UB cv sv gv l ss gs) (hl:l.length≤80000) (uk:U32 k) (hs:ss.length≤1000) (hs1:1≤ss.length) (hgs:gs.length≤9000) (hjt:0≤jt∧jt≤4294967295) (hjf:0≤jf∧jf≤4294967295) :
  Calls Tryz.prog 76 #[.pointer (some ⟨M,0,none⟩),.agg #[.int .i64 48,.int .i64 jt,.int .i64 jf,.int .i64 k]] w fun e w'=>e=.returned (.tuple #[])∧APost w0 w' M KB SB OB UB sv (l++piece (kd 48) k 0 0) ss (gs++gp (kd 48) l.length ss.length jt jf k):=by
 have e:gp (kd 48) l.length ss.length jt jf k=[]:=rfl
 rw [e,List.append_nil]
 exact add_c1 w0 w M KB SB OB UB cv sv gv l ss gs 48 jt jf k _ h rfl (fun w' h'=>(cf_48 w0 w' M KB SB OB UB cv sv gv l ss gs jt jf k h' hl uk).mono fun e w2 ⟨h1,cv2,h2⟩=>⟨h1,cv2,gv,h2⟩)
theorem ca_64 (w0 w:World) (M KB SB OB UB:Nat) (cv sv gv:Value) (l ss:List Int) (gs:List (Int × Int)) (jt jf k:Int) (h:CM w0 w M KB SB OB UB cv sv gv l ss gs) (hl:l.length≤80000) (uk:U32 k) (hs:ss.length≤1000) (hs1:1≤ss.length) (hgs:gs.length≤9000) (hjt:0≤jt∧jt≤4294967295) (hjf:0≤jf∧jf≤4294967295) :
  Calls Tryz.prog 76 #[.pointer (some ⟨M,0,none⟩),.agg #[.int .i64 64,.int .i64 jt,.int .i64 jf,.int .i64 k]] w fun e w'=>e=.returned (.tuple #[])∧APost w0 w' M KB SB OB UB sv (l++piece (kd 64) k 0 0) ss (gs++gp (kd 64) l.length ss.length jt jf k):=by
 have e:gp (kd 64) l.length ss.length jt jf k=[]:=rfl
 rw [e,List.append_nil]
 exact add_c1 w0 w M KB SB OB UB cv sv gv l ss gs 64 jt jf k _ h rfl (fun w' h'=>(cf_64 w0 w' M KB SB OB UB cv sv gv l ss gs jt jf k h' hl uk).mono fun e w2 ⟨h1,cv2,h2⟩=>⟨h1,cv2,gv,h2⟩)
theorem ca_72 (w0 w:World) (M KB SB OB UB:Nat) (cv sv gv:Value) (l ss:List Int) (gs:List (Int × Int)) (jt jf k:Int) (h:CM w0 w M KB SB OB UB cv sv gv l ss gs) (hl:l.length≤80000) (uk:U32 k) (hs:ss.length≤1000) (hs1:1≤ss.length) (hgs:gs.length≤9000) (hjt:0≤jt∧jt≤4294967295) (hjf:0≤jf∧jf≤4294967295) :
  Calls Tryz.prog 76 #[.pointer (some ⟨M,0,none⟩),.agg #[.int .i64 72,.int .i64 jt,.int .i64 jf,.int .i64 k]] w fun e w'=>e=.returned (.tuple #[])∧APost w0 w' M KB SB OB UB sv (l++piece (kd 72) k 0 0) ss (gs++gp (kd 72) l.length ss.length jt jf k):=by
 have e:gp (kd 72) l.length ss.length jt jf k=[]:=rfl
 rw [e,List.append_nil]
 exact add_c1 w0 w M KB SB OB UB cv sv gv l ss gs 72 jt jf k _ h rfl (fun w' h'=>(cf_72 w0 w' M KB SB OB UB cv sv gv l ss gs jt jf k h' hl uk).mono fun e w2 ⟨h1,cv2,h2⟩=>⟨h1,cv2,gv,h2⟩)
theorem ca_80 (w0 w:World) (M KB SB OB UB:Nat) (cv sv gv:Value) (l ss:List Int) (gs:List (Int × Int)) (jt jf k:Int) (h:CM w0 w M KB SB OB UB cv sv gv l ss gs) (hl:l.length≤80000) (uk:U32 k) (hs:ss.length≤1000) (hs1:1≤ss.length) (hgs:gs.length≤9000) (hjt:0≤jt∧jt≤4294967295) (hjf:0≤jf∧jf≤4294967295) :
  Calls Tryz.prog 76 #[.pointer (some ⟨M,0,none⟩),.agg #[.int .i64 80,.int .i64 jt,.int .i64 jf,.int .i64 k]] w fun e w'=>e=.returned (.tuple #[])∧APost w0 w' M KB SB OB UB sv (l++piece (kd 80) k 0 0) ss (gs++gp (kd 80) l.length ss.length jt jf k):=by
 have e:gp (kd 80) l.length ss.length jt jf k=[]:=rfl
 rw [e,List.append_nil]
 exact add_c1 w0 w M KB SB OB UB cv sv gv l ss gs 80 jt jf k _ h rfl (fun w' h'=>(cf_80 w0 w' M KB SB OB UB cv sv gv l ss gs jt jf k h' hl uk).mono fun e w2 ⟨h1,cv2,h2⟩=>⟨h1,cv2,gv,h2⟩)
theorem ca_0 (w0 w:World) (M KB SB OB UB:Nat) (cv sv gv:Value) (l ss:List Int) (gs:List (Int × Int)) (jt jf k:Int) (h:CM w0 w M KB SB OB UB cv sv gv l ss gs) (hl:l.length≤80000) (uk:U32 k) (hs:ss.length≤1000) (hs1:1≤ss.length) (hgs:gs.length≤9000) (hjt:0≤jt∧jt≤4294967295) (hjf:0≤jf∧jf≤4294967295) :
  Calls Tryz.prog 76 #[.pointer (some ⟨M,0,none⟩),.agg #[.int .i64 0,.int .i64 jt,.int .i64 jf,.int .i64 k]] w fun e w'=>e=.returned (.tuple #[])∧APost w0 w' M KB SB OB UB sv (l++piece (kd 0) k 0 0) ss (gs++gp (kd 0) l.length ss.length jt jf k):=by
 have e:gp (kd 0) l.length ss.length jt jf k=[]:=rfl
 rw [e,List.append_nil]
 exact add_c2 w0 w M KB SB OB UB cv sv gv l ss gs 0 jt jf k _ h rfl (fun w' h'=>(cf_0 w0 w' M KB SB OB UB cv sv gv l ss gs jt jf k h' hl uk).mono fun e w2 ⟨h1,cv2,h2⟩=>⟨h1,cv2,gv,h2⟩)
theorem ca_1 (w0 w:World) (M KB SB OB UB:Nat) (cv sv gv:Value) (l ss:List Int) (gs:List (Int × Int)) (jt jf k:Int) (h:CM w0 w M KB SB OB UB cv sv gv l ss gs) (hl:l.length≤80000) (uk:U32 k) (hs:ss.length≤1000) (hs1:1≤ss.length) (hgs:gs.length≤9000) (hjt:0≤jt∧jt≤4294967295) (hjf:0≤jf∧jf≤4294967295) :
  Calls Tryz.prog 76 #[.pointer (some ⟨M,0,none⟩),.agg #[.int .i64 1,.int .i64 jt,.int .i64 jf,.int .i64 k]] w fun e w'=>e=.returned (.tuple #[])∧APost w0 w' M KB SB OB UB sv (l++piece (kd 1) k 0 0) ss (gs++gp (kd 1) l.length ss.length jt jf k):=by
 have e:gp (kd 1) l.length ss.length jt jf k=[]:=rfl
 rw [e,List.append_nil]
 exact add_c2 w0 w M KB SB OB UB cv sv gv l ss gs 1 jt jf k _ h rfl (fun w' h'=>(cf_1 w0 w' M KB SB OB UB cv sv gv l ss gs jt jf k h' hl uk).mono fun e w2 ⟨h1,cv2,h2⟩=>⟨h1,cv2,gv,h2⟩)
theorem ca_96 (w0 w:World) (M KB SB OB UB:Nat) (cv sv gv:Value) (l ss:List Int) (gs:List (Int × Int)) (jt jf k:Int) (h:CM w0 w M KB SB OB UB cv sv gv l ss gs) (hl:l.length≤80000) (uk:U32 k) (hs:ss.length≤1000) (hs1:1≤ss.length) (hgs:gs.length≤9000) (hjt:0≤jt∧jt≤4294967295) (hjf:0≤jf∧jf≤4294967295) (k16:k<16) :
  Calls Tryz.prog 76 #[.pointer (some ⟨M,0,none⟩),.agg #[.int .i64 96,.int .i64 jt,.int .i64 jf,.int .i64 k]] w fun e w'=>e=.returned (.tuple #[])∧APost w0 w' M KB SB OB UB sv (l++piece (kd 96) k 0 0) ss (gs++gp (kd 96) l.length ss.length jt jf k):=by
 have e:gp (kd 96) l.length ss.length jt jf k=[]:=rfl
 rw [e,List.append_nil]
 exact add_c3 w0 w M KB SB OB UB cv sv gv l ss gs 96 jt jf k _ h rfl (fun w' h'=>(cf_96 w0 w' M KB SB OB UB cv sv gv l ss gs jt jf k h' hl uk k16).mono fun e w2 ⟨h1,cv2,h2⟩=>⟨h1,cv2,gv,h2⟩)
theorem ca_97 (w0 w:World) (M KB SB OB UB:Nat) (cv sv gv:Value) (l ss:List Int) (gs:List (Int × Int)) (jt jf k:Int) (h:CM w0 w M KB SB OB UB cv sv gv l ss gs) (hl:l.length≤80000) (uk:U32 k) (hs:ss.length≤1000) (hs1:1≤ss.length) (hgs:gs.length≤9000) (hjt:0≤jt∧jt≤4294967295) (hjf:0≤jf∧jf≤4294967295) (k16:k<16) :
  Calls Tryz.prog 76 #[.pointer (some ⟨M,0,none⟩),.agg #[.int .i64 97,.int .i64 jt,.int .i64 jf,.int .i64 k]] w fun e w'=>e=.returned (.tuple #[])∧APost w0 w' M KB SB OB UB sv (l++piece (kd 97) k 0 0) ss (gs++gp (kd 97) l.length ss.length jt jf k):=by
 have e:gp (kd 97) l.length ss.length jt jf k=[]:=rfl
 rw [e,List.append_nil]
 exact add_c3 w0 w M KB SB OB UB cv sv gv l ss gs 97 jt jf k _ h rfl (fun w' h'=>(cf_97 w0 w' M KB SB OB UB cv sv gv l ss gs jt jf k h' hl uk k16).mono fun e w2 ⟨h1,cv2,h2⟩=>⟨h1,cv2,gv,h2⟩)
theorem ca_128 (w0 w:World) (M KB SB OB UB:Nat) (cv sv gv:Value) (l ss:List Int) (gs:List (Int × Int)) (jt jf k:Int) (h:CM w0 w M KB SB OB UB cv sv gv l ss gs) (hl:l.length≤80000) (uk:U32 k) (hs:ss.length≤1000) (hs1:1≤ss.length) (hgs:gs.length≤9000) (hjt:0≤jt∧jt≤4294967295) (hjf:0≤jf∧jf≤4294967295) :
  Calls Tryz.prog 76 #[.pointer (some ⟨M,0,none⟩),.agg #[.int .i64 128,.int .i64 jt,.int .i64 jf,.int .i64 k]] w fun e w'=>e=.returned (.tuple #[])∧APost w0 w' M KB SB OB UB sv (l++piece (kd 128) k 0 0) ss (gs++gp (kd 128) l.length ss.length jt jf k):=by
 have e:gp (kd 128) l.length ss.length jt jf k=[]:=rfl
 rw [e,List.append_nil]
 exact add_c2 w0 w M KB SB OB UB cv sv gv l ss gs 128 jt jf k _ h rfl (fun w' h'=>(cf_128 w0 w' M KB SB OB UB cv sv gv l ss gs jt jf k h' hl uk).mono fun e w2 ⟨h1,cv2,h2⟩=>⟨h1,cv2,gv,h2⟩)
theorem ca_129 (w0 w:World) (M KB SB OB UB:Nat) (cv sv gv:Value) (l ss:List Int) (gs:List (Int × Int)) (jt jf k:Int) (h:CM w0 w M KB SB OB UB cv sv gv l ss gs) (hl:l.length≤80000) (uk:U32 k) (hs:ss.length≤1000) (hs1:1≤ss.length) (hgs:gs.length≤9000) (hjt:0≤jt∧jt≤4294967295) (hjf:0≤jf∧jf≤4294967295) :
  Calls Tryz.prog 76 #[.pointer (some ⟨M,0,none⟩),.agg #[.int .i64 129,.int .i64 jt,.int .i64 jf,.int .i64 k]] w fun e w'=>e=.returned (.tuple #[])∧APost w0 w' M KB SB OB UB sv (l++piece (kd 129) k 0 0) ss (gs++gp (kd 129) l.length ss.length jt jf k):=by
 have e:gp (kd 129) l.length ss.length jt jf k=[]:=rfl
 rw [e,List.append_nil]
 exact add_c2 w0 w M KB SB OB UB cv sv gv l ss gs 129 jt jf k _ h rfl (fun w' h'=>(cf_129 w0 w' M KB SB OB UB cv sv gv l ss gs jt jf k h' hl uk).mono fun e w2 ⟨h1,cv2,h2⟩=>⟨h1,cv2,gv,h2⟩)
theorem ca_177 (w0 w:World) (M KB SB OB UB:Nat) (cv sv gv:Value) (l ss:List Int) (gs:List (Int × Int)) (jt jf k:Int) (h:CM w0 w M KB SB OB UB cv sv gv l ss gs) (hl:l.length≤80000) (uk:U32 k) (hs:ss.length≤1000) (hs1:1≤ss.length) (hgs:gs.length≤9000) (hjt:0≤jt∧jt≤4294967295) (hjf:0≤jf∧jf≤4294967295) :
  Calls Tryz.prog 76 #[.pointer (some ⟨M,0,none⟩),.agg #[.int .i64 177,.int .i64 jt,.int .i64 jf,.int .i64 k]] w fun e w'=>e=.returned (.tuple #[])∧APost w0 w' M KB SB OB UB sv (l++piece (kd 177) k 0 0) ss (gs++gp (kd 177) l.length ss.length jt jf k):=by
 have e:gp (kd 177) l.length ss.length jt jf k=[]:=rfl
 rw [e,List.append_nil]
 exact add_c1 w0 w M KB SB OB UB cv sv gv l ss gs 177 jt jf k _ h rfl (fun w' h'=>(cf_177 w0 w' M KB SB OB UB cv sv gv l ss gs jt jf k h' hl uk).mono fun e w2 ⟨h1,cv2,h2⟩=>⟨h1,cv2,gv,h2⟩)
theorem ca_2 (w0 w:World) (M KB SB OB UB:Nat) (cv sv gv:Value) (l ss:List Int) (gs:List (Int × Int)) (jt jf k:Int) (h:CM w0 w M KB SB OB UB cv sv gv l ss gs) (hl:l.length≤80000) (uk:U32 k) (hs:ss.length≤1000) (hs1:1≤ss.length) (hgs:gs.length≤9000) (hjt:0≤jt∧jt≤4294967295) (hjf:0≤jf∧jf≤4294967295) (k16:k<16) :
  Calls Tryz.prog 76 #[.pointer (some ⟨M,0,none⟩),.agg #[.int .i64 2,.int .i64 jt,.int .i64 jf,.int .i64 k]] w fun e w'=>e=.returned (.tuple #[])∧APost w0 w' M KB SB OB UB sv (l++piece (kd 2) k 0 0) ss (gs++gp (kd 2) l.length ss.length jt jf k):=by
 have e:gp (kd 2) l.length ss.length jt jf k=[]:=rfl
 rw [e,List.append_nil]
 exact add_c4 w0 w M KB SB OB UB cv sv gv l ss gs 2 jt jf k _ h rfl (fun w' h'=>(cf_2 w0 w' M KB SB OB UB cv sv gv l ss gs jt jf k h' hl uk k16).mono fun e w2 ⟨h1,cv2,h2⟩=>⟨h1,cv2,gv,h2⟩)
theorem ca_3 (w0 w:World) (M KB SB OB UB:Nat) (cv sv gv:Value) (l ss:List Int) (gs:List (Int × Int)) (jt jf k:Int) (h:CM w0 w M KB SB OB UB cv sv gv l ss gs) (hl:l.length≤80000) (uk:U32 k) (hs:ss.length≤1000) (hs1:1≤ss.length) (hgs:gs.length≤9000) (hjt:0≤jt∧jt≤4294967295) (hjf:0≤jf∧jf≤4294967295) (k16:k<16) :
  Calls Tryz.prog 76 #[.pointer (some ⟨M,0,none⟩),.agg #[.int .i64 3,.int .i64 jt,.int .i64 jf,.int .i64 k]] w fun e w'=>e=.returned (.tuple #[])∧APost w0 w' M KB SB OB UB sv (l++piece (kd 3) k 0 0) ss (gs++gp (kd 3) l.length ss.length jt jf k):=by
 have e:gp (kd 3) l.length ss.length jt jf k=[]:=rfl
 rw [e,List.append_nil]
 exact add_c4 w0 w M KB SB OB UB cv sv gv l ss gs 3 jt jf k _ h rfl (fun w' h'=>(cf_3 w0 w' M KB SB OB UB cv sv gv l ss gs jt jf k h' hl uk k16).mono fun e w2 ⟨h1,cv2,h2⟩=>⟨h1,cv2,gv,h2⟩)
theorem ca_7 (w0 w:World) (M KB SB OB UB:Nat) (cv sv gv:Value) (l ss:List Int) (gs:List (Int × Int)) (jt jf k:Int) (h:CM w0 w M KB SB OB UB cv sv gv l ss gs) (hl:l.length≤80000) (uk:U32 k) (hs:ss.length≤1000) (hs1:1≤ss.length) (hgs:gs.length≤9000) (hjt:0≤jt∧jt≤4294967295) (hjf:0≤jf∧jf≤4294967295) :
  Calls Tryz.prog 76 #[.pointer (some ⟨M,0,none⟩),.agg #[.int .i64 7,.int .i64 jt,.int .i64 jf,.int .i64 k]] w fun e w'=>e=.returned (.tuple #[])∧APost w0 w' M KB SB OB UB sv (l++piece (kd 7) k 0 0) ss (gs++gp (kd 7) l.length ss.length jt jf k):=by
 have e:gp (kd 7) l.length ss.length jt jf k=[]:=rfl
 rw [e,List.append_nil]
 exact add_c5 w0 w M KB SB OB UB cv sv gv l ss gs 7 jt jf k _ h rfl (fun w' h'=>(cf_7 w0 w' M KB SB OB UB cv sv gv l ss gs jt jf k h' hl uk).mono fun e w2 ⟨h1,cv2,h2⟩=>⟨h1,cv2,gv,h2⟩)
theorem ca_135 (w0 w:World) (M KB SB OB UB:Nat) (cv sv gv:Value) (l ss:List Int) (gs:List (Int × Int)) (jt jf k:Int) (h:CM w0 w M KB SB OB UB cv sv gv l ss gs) (hl:l.length≤80000) (uk:U32 k) (hs:ss.length≤1000) (hs1:1≤ss.length) (hgs:gs.length≤9000) (hjt:0≤jt∧jt≤4294967295) (hjf:0≤jf∧jf≤4294967295) :
  Calls Tryz.prog 76 #[.pointer (some ⟨M,0,none⟩),.agg #[.int .i64 135,.int .i64 jt,.int .i64 jf,.int .i64 k]] w fun e w'=>e=.returned (.tuple #[])∧APost w0 w' M KB SB OB UB sv (l++piece (kd 135) k 0 0) ss (gs++gp (kd 135) l.length ss.length jt jf k):=by
 have e:gp (kd 135) l.length ss.length jt jf k=[]:=rfl
 rw [e,List.append_nil]
 exact add_c5 w0 w M KB SB OB UB cv sv gv l ss gs 135 jt jf k _ h rfl (fun w' h'=>(cf_135 w0 w' M KB SB OB UB cv sv gv l ss gs jt jf k h' hl uk).mono fun e w2 ⟨h1,cv2,h2⟩=>⟨h1,cv2,gv,h2⟩)
theorem ca_132 (w0 w:World) (M KB SB OB UB:Nat) (cv sv gv:Value) (l ss:List Int) (gs:List (Int × Int)) (jt jf k:Int) (h:CM w0 w M KB SB OB UB cv sv gv l ss gs) (hl:l.length≤80000) (uk:U32 k) (hs:ss.length≤1000) (hs1:1≤ss.length) (hgs:gs.length≤9000) (hjt:0≤jt∧jt≤4294967295) (hjf:0≤jf∧jf≤4294967295) :
  Calls Tryz.prog 76 #[.pointer (some ⟨M,0,none⟩),.agg #[.int .i64 132,.int .i64 jt,.int .i64 jf,.int .i64 k]] w fun e w'=>e=.returned (.tuple #[])∧APost w0 w' M KB SB OB UB sv (l++piece (kd 132) k 0 0) ss (gs++gp (kd 132) l.length ss.length jt jf k):=by
 have e:gp (kd 132) l.length ss.length jt jf k=[]:=rfl
 rw [e,List.append_nil]
 exact add_c6 w0 w M KB SB OB UB cv sv gv l ss gs 132 jt jf k _ h rfl (fun w' h'=>(cf_132 w0 w' M KB SB OB UB cv sv gv l ss gs jt jf k h' hl uk).mono fun e w2 ⟨h1,cv2,h2⟩=>⟨h1,cv2,gv,h2⟩)
theorem ca_5 (w0 w:World) (M KB SB OB UB:Nat) (cv sv gv:Value) (l ss:List Int) (gs:List (Int × Int)) (jt jf k:Int) (h:CM w0 w M KB SB OB UB cv sv gv l ss gs) (hl:l.length≤80000) (uk:U32 k) (hs:ss.length≤1000) (hs1:1≤ss.length) (hgs:gs.length≤9000) (hjt:0≤jt∧jt≤4294967295) (hjf:0≤jf∧jf≤4294967295) :
  Calls Tryz.prog 76 #[.pointer (some ⟨M,0,none⟩),.agg #[.int .i64 5,.int .i64 jt,.int .i64 jf,.int .i64 k]] w fun e w'=>e=.returned (.tuple #[])∧APost w0 w' M KB SB OB UB sv (l++piece (kd 5) k 0 0) ss (gs++gp (kd 5) l.length ss.length jt jf k):=by
 have e:gp (kd 5) l.length ss.length jt jf k=[((l.length:Int)+3,(ss.length:Int)+k)]:=by
  rw [show kd 5=⟨5,10,0,false,0,9⟩ from rfl]
  simp only [gp,Int.reduceEq,if_true,if_false]
  rw [show plen ⟨5,10,0,false,0,9⟩=3 from rfl]
  rfl
 rw [e]
 exact add_c9 w0 w M KB SB OB UB cv sv gv l ss gs 5 jt jf k _ h rfl (fun w' h'=>(cj_5 w0 w' M KB SB OB UB cv sv gv l ss gs jt jf k h' hl uk hs hs1 hgs hjt hjf).mono fun e w2 ⟨h1,cv2,gv2,h2⟩=>⟨h1,cv2,gv2,h2⟩)
theorem ca_6 (w0 w:World) (M KB SB OB UB:Nat) (cv sv gv:Value) (l ss:List Int) (gs:List (Int × Int)) (jt jf k:Int) (h:CM w0 w M KB SB OB UB cv sv gv l ss gs) (hl:l.length≤80000) (uk:U32 k) (hs:ss.length≤1000) (hs1:1≤ss.length) (hgs:gs.length≤9000) (hjt:0≤jt∧jt≤4294967295) (hjf:0≤jf∧jf≤4294967295) :
  Calls Tryz.prog 76 #[.pointer (some ⟨M,0,none⟩),.agg #[.int .i64 6,.int .i64 jt,.int .i64 jf,.int .i64 k]] w fun e w'=>e=.returned (.tuple #[])∧APost w0 w' M KB SB OB UB sv (l++piece (kd 6) k 0 0) ss (gs++gp (kd 6) l.length ss.length jt jf k):=by
 have e:gp (kd 6) l.length ss.length jt jf k=[]:=rfl
 rw [e,List.append_nil]
 exact add_c11 w0 w M KB SB OB UB cv sv gv l ss gs 6 jt jf k _ h rfl (fun w' h'=>(cf_6 w0 w' M KB SB OB UB cv sv gv l ss gs jt jf k h' hl uk).mono fun e w2 ⟨h1,cv2,h2⟩=>⟨h1,cv2,gv,h2⟩)
theorem ca_22 (w0 w:World) (M KB SB OB UB:Nat) (cv sv gv:Value) (l ss:List Int) (gs:List (Int × Int)) (jt jf k:Int) (h:CM w0 w M KB SB OB UB cv sv gv l ss gs) (hl:l.length≤80000) (uk:U32 k) (hs:ss.length≤1000) (hs1:1≤ss.length) (hgs:gs.length≤9000) (hjt:0≤jt∧jt≤4294967295) (hjf:0≤jf∧jf≤4294967295) :
  Calls Tryz.prog 76 #[.pointer (some ⟨M,0,none⟩),.agg #[.int .i64 22,.int .i64 jt,.int .i64 jf,.int .i64 k]] w fun e w'=>e=.returned (.tuple #[])∧APost w0 w' M KB SB OB UB sv (l++piece (kd 22) k 0 0) ss (gs++gp (kd 22) l.length ss.length jt jf k):=by
 have e:gp (kd 22) l.length ss.length jt jf k=[]:=rfl
 rw [e,List.append_nil]
 exact add_c11 w0 w M KB SB OB UB cv sv gv l ss gs 22 jt jf k _ h rfl (fun w' h'=>(cf_22 w0 w' M KB SB OB UB cv sv gv l ss gs jt jf k h' hl uk).mono fun e w2 ⟨h1,cv2,h2⟩=>⟨h1,cv2,gv,h2⟩)
theorem ca_4 (w0 w:World) (M KB SB OB UB:Nat) (cv sv gv:Value) (l ss:List Int) (gs:List (Int × Int)) (jt jf k:Int) (h:CM w0 w M KB SB OB UB cv sv gv l ss gs) (hl:l.length≤80000) (uk:U32 k) (hs:ss.length≤1000) (hs1:1≤ss.length) (hgs:gs.length≤9000) (hjt:0≤jt∧jt≤4294967295) (hjf:0≤jf∧jf≤4294967295) :
  Calls Tryz.prog 76 #[.pointer (some ⟨M,0,none⟩),.agg #[.int .i64 4,.int .i64 jt,.int .i64 jf,.int .i64 k]] w fun e w'=>e=.returned (.tuple #[])∧APost w0 w' M KB SB OB UB sv (l++piece (kd 4) k 0 0) ss (gs++gp (kd 4) l.length ss.length jt jf k):=by
 have e:gp (kd 4) l.length ss.length jt jf k=[]:=rfl
 rw [e,List.append_nil]
 exact add_c6 w0 w M KB SB OB UB cv sv gv l ss gs 4 jt jf k _ h rfl (fun w' h'=>(cf_4 w0 w' M KB SB OB UB cv sv gv l ss gs jt jf k h' hl uk).mono fun e w2 ⟨h1,cv2,h2⟩=>⟨h1,cv2,gv,h2⟩)
theorem ca_20 (w0 w:World) (M KB SB OB UB:Nat) (cv sv gv:Value) (l ss:List Int) (gs:List (Int × Int)) (jt jf k:Int) (h:CM w0 w M KB SB OB UB cv sv gv l ss gs) (hl:l.length≤80000) (uk:U32 k) (hs:ss.length≤1000) (hs1:1≤ss.length) (hgs:gs.length≤9000) (hjt:0≤jt∧jt≤4294967295) (hjf:0≤jf∧jf≤4294967295) :
  Calls Tryz.prog 76 #[.pointer (some ⟨M,0,none⟩),.agg #[.int .i64 20,.int .i64 jt,.int .i64 jf,.int .i64 k]] w fun e w'=>e=.returned (.tuple #[])∧APost w0 w' M KB SB OB UB sv (l++piece (kd 20) k 0 0) ss (gs++gp (kd 20) l.length ss.length jt jf k):=by
 have e:gp (kd 20) l.length ss.length jt jf k=[]:=rfl
 rw [e,List.append_nil]
 exact add_c6 w0 w M KB SB OB UB cv sv gv l ss gs 20 jt jf k _ h rfl (fun w' h'=>(cf_20 w0 w' M KB SB OB UB cv sv gv l ss gs jt jf k h' hl uk).mono fun e w2 ⟨h1,cv2,h2⟩=>⟨h1,cv2,gv,h2⟩)
theorem ca_36 (w0 w:World) (M KB SB OB UB:Nat) (cv sv gv:Value) (l ss:List Int) (gs:List (Int × Int)) (jt jf k:Int) (h:CM w0 w M KB SB OB UB cv sv gv l ss gs) (hl:l.length≤80000) (uk:U32 k) (hs:ss.length≤1000) (hs1:1≤ss.length) (hgs:gs.length≤9000) (hjt:0≤jt∧jt≤4294967295) (hjf:0≤jf∧jf≤4294967295) :
  Calls Tryz.prog 76 #[.pointer (some ⟨M,0,none⟩),.agg #[.int .i64 36,.int .i64 jt,.int .i64 jf,.int .i64 k]] w fun e w'=>e=.returned (.tuple #[])∧APost w0 w' M KB SB OB UB sv (l++piece (kd 36) k 0 0) ss (gs++gp (kd 36) l.length ss.length jt jf k):=by
 have e:gp (kd 36) l.length ss.length jt jf k=[]:=rfl
 rw [e,List.append_nil]
 exact add_c6 w0 w M KB SB OB UB cv sv gv l ss gs 36 jt jf k _ h rfl (fun w' h'=>(cf_36 w0 w' M KB SB OB UB cv sv gv l ss gs jt jf k h' hl uk).mono fun e w2 ⟨h1,cv2,h2⟩=>⟨h1,cv2,gv,h2⟩)
theorem ca_52 (w0 w:World) (M KB SB OB UB:Nat) (cv sv gv:Value) (l ss:List Int) (gs:List (Int × Int)) (jt jf k:Int) (h:CM w0 w M KB SB OB UB cv sv gv l ss gs) (hl:l.length≤80000) (uk:U32 k) (hs:ss.length≤1000) (hs1:1≤ss.length) (hgs:gs.length≤9000) (hjt:0≤jt∧jt≤4294967295) (hjf:0≤jf∧jf≤4294967295) :
  Calls Tryz.prog 76 #[.pointer (some ⟨M,0,none⟩),.agg #[.int .i64 52,.int .i64 jt,.int .i64 jf,.int .i64 k]] w fun e w'=>e=.returned (.tuple #[])∧APost w0 w' M KB SB OB UB sv (l++piece (kd 52) k 0 0) ss (gs++gp (kd 52) l.length ss.length jt jf k):=by
 have e:gp (kd 52) l.length ss.length jt jf k=[]:=rfl
 rw [e,List.append_nil]
 exact add_c7 w0 w M KB SB OB UB cv sv gv l ss gs 52 jt jf k _ h rfl (fun w' h'=>(cf_52 w0 w' M KB SB OB UB cv sv gv l ss gs jt jf k h' hl uk).mono fun e w2 ⟨h1,cv2,h2⟩=>⟨h1,cv2,gv,h2⟩)
theorem ca_148 (w0 w:World) (M KB SB OB UB:Nat) (cv sv gv:Value) (l ss:List Int) (gs:List (Int × Int)) (jt jf k:Int) (h:CM w0 w M KB SB OB UB cv sv gv l ss gs) (hl:l.length≤80000) (uk:U32 k) (hs:ss.length≤1000) (hs1:1≤ss.length) (hgs:gs.length≤9000) (hjt:0≤jt∧jt≤4294967295) (hjf:0≤jf∧jf≤4294967295) :
  Calls Tryz.prog 76 #[.pointer (some ⟨M,0,none⟩),.agg #[.int .i64 148,.int .i64 jt,.int .i64 jf,.int .i64 k]] w fun e w'=>e=.returned (.tuple #[])∧APost w0 w' M KB SB OB UB sv (l++piece (kd 148) k 0 0) ss (gs++gp (kd 148) l.length ss.length jt jf k):=by
 have e:gp (kd 148) l.length ss.length jt jf k=[]:=rfl
 rw [e,List.append_nil]
 exact add_c7 w0 w M KB SB OB UB cv sv gv l ss gs 148 jt jf k _ h rfl (fun w' h'=>(cf_148 w0 w' M KB SB OB UB cv sv gv l ss gs jt jf k h' hl uk).mono fun e w2 ⟨h1,cv2,h2⟩=>⟨h1,cv2,gv,h2⟩)
theorem ca_68 (w0 w:World) (M KB SB OB UB:Nat) (cv sv gv:Value) (l ss:List Int) (gs:List (Int × Int)) (jt jf k:Int) (h:CM w0 w M KB SB OB UB cv sv gv l ss gs) (hl:l.length≤80000) (uk:U32 k) (hs:ss.length≤1000) (hs1:1≤ss.length) (hgs:gs.length≤9000) (hjt:0≤jt∧jt≤4294967295) (hjf:0≤jf∧jf≤4294967295) :
  Calls Tryz.prog 76 #[.pointer (some ⟨M,0,none⟩),.agg #[.int .i64 68,.int .i64 jt,.int .i64 jf,.int .i64 k]] w fun e w'=>e=.returned (.tuple #[])∧APost w0 w' M KB SB OB UB sv (l++piece (kd 68) k 0 0) ss (gs++gp (kd 68) l.length ss.length jt jf k):=by
 have e:gp (kd 68) l.length ss.length jt jf k=[]:=rfl
 rw [e,List.append_nil]
 exact add_c6 w0 w M KB SB OB UB cv sv gv l ss gs 68 jt jf k _ h rfl (fun w' h'=>(cf_68 w0 w' M KB SB OB UB cv sv gv l ss gs jt jf k h' hl uk).mono fun e w2 ⟨h1,cv2,h2⟩=>⟨h1,cv2,gv,h2⟩)
theorem ca_84 (w0 w:World) (M KB SB OB UB:Nat) (cv sv gv:Value) (l ss:List Int) (gs:List (Int × Int)) (jt jf k:Int) (h:CM w0 w M KB SB OB UB cv sv gv l ss gs) (hl:l.length≤80000) (uk:U32 k) (hs:ss.length≤1000) (hs1:1≤ss.length) (hgs:gs.length≤9000) (hjt:0≤jt∧jt≤4294967295) (hjf:0≤jf∧jf≤4294967295) :
  Calls Tryz.prog 76 #[.pointer (some ⟨M,0,none⟩),.agg #[.int .i64 84,.int .i64 jt,.int .i64 jf,.int .i64 k]] w fun e w'=>e=.returned (.tuple #[])∧APost w0 w' M KB SB OB UB sv (l++piece (kd 84) k 0 0) ss (gs++gp (kd 84) l.length ss.length jt jf k):=by
 have e:gp (kd 84) l.length ss.length jt jf k=[]:=rfl
 rw [e,List.append_nil]
 exact add_c6 w0 w M KB SB OB UB cv sv gv l ss gs 84 jt jf k _ h rfl (fun w' h'=>(cf_84 w0 w' M KB SB OB UB cv sv gv l ss gs jt jf k h' hl uk).mono fun e w2 ⟨h1,cv2,h2⟩=>⟨h1,cv2,gv,h2⟩)
theorem ca_164 (w0 w:World) (M KB SB OB UB:Nat) (cv sv gv:Value) (l ss:List Int) (gs:List (Int × Int)) (jt jf k:Int) (h:CM w0 w M KB SB OB UB cv sv gv l ss gs) (hl:l.length≤80000) (uk:U32 k) (hs:ss.length≤1000) (hs1:1≤ss.length) (hgs:gs.length≤9000) (hjt:0≤jt∧jt≤4294967295) (hjf:0≤jf∧jf≤4294967295) :
  Calls Tryz.prog 76 #[.pointer (some ⟨M,0,none⟩),.agg #[.int .i64 164,.int .i64 jt,.int .i64 jf,.int .i64 k]] w fun e w'=>e=.returned (.tuple #[])∧APost w0 w' M KB SB OB UB sv (l++piece (kd 164) k 0 0) ss (gs++gp (kd 164) l.length ss.length jt jf k):=by
 have e:gp (kd 164) l.length ss.length jt jf k=[]:=rfl
 rw [e,List.append_nil]
 exact add_c6 w0 w M KB SB OB UB cv sv gv l ss gs 164 jt jf k _ h rfl (fun w' h'=>(cf_164 w0 w' M KB SB OB UB cv sv gv l ss gs jt jf k h' hl uk).mono fun e w2 ⟨h1,cv2,h2⟩=>⟨h1,cv2,gv,h2⟩)
theorem ca_100 (w0 w:World) (M KB SB OB UB:Nat) (cv sv gv:Value) (l ss:List Int) (gs:List (Int × Int)) (jt jf k:Int) (h:CM w0 w M KB SB OB UB cv sv gv l ss gs) (hl:l.length≤80000) (uk:U32 k) (hs:ss.length≤1000) (hs1:1≤ss.length) (hgs:gs.length≤9000) (hjt:0≤jt∧jt≤4294967295) (hjf:0≤jf∧jf≤4294967295) :
  Calls Tryz.prog 76 #[.pointer (some ⟨M,0,none⟩),.agg #[.int .i64 100,.int .i64 jt,.int .i64 jf,.int .i64 k]] w fun e w'=>e=.returned (.tuple #[])∧APost w0 w' M KB SB OB UB sv (l++piece (kd 100) k 0 0) ss (gs++gp (kd 100) l.length ss.length jt jf k):=by
 have e:gp (kd 100) l.length ss.length jt jf k=[]:=rfl
 rw [e,List.append_nil]
 exact add_c8 w0 w M KB SB OB UB cv sv gv l ss gs 100 jt jf k _ h rfl (fun w' h'=>(cf_100 w0 w' M KB SB OB UB cv sv gv l ss gs jt jf k h' hl uk).mono fun e w2 ⟨h1,cv2,h2⟩=>⟨h1,cv2,gv,h2⟩)
theorem ca_116 (w0 w:World) (M KB SB OB UB:Nat) (cv sv gv:Value) (l ss:List Int) (gs:List (Int × Int)) (jt jf k:Int) (h:CM w0 w M KB SB OB UB cv sv gv l ss gs) (hl:l.length≤80000) (uk:U32 k) (hs:ss.length≤1000) (hs1:1≤ss.length) (hgs:gs.length≤9000) (hjt:0≤jt∧jt≤4294967295) (hjf:0≤jf∧jf≤4294967295) :
  Calls Tryz.prog 76 #[.pointer (some ⟨M,0,none⟩),.agg #[.int .i64 116,.int .i64 jt,.int .i64 jf,.int .i64 k]] w fun e w'=>e=.returned (.tuple #[])∧APost w0 w' M KB SB OB UB sv (l++piece (kd 116) k 0 0) ss (gs++gp (kd 116) l.length ss.length jt jf k):=by
 have e:gp (kd 116) l.length ss.length jt jf k=[]:=rfl
 rw [e,List.append_nil]
 exact add_c8 w0 w M KB SB OB UB cv sv gv l ss gs 116 jt jf k _ h rfl (fun w' h'=>(cf_116 w0 w' M KB SB OB UB cv sv gv l ss gs jt jf k h' hl uk).mono fun e w2 ⟨h1,cv2,h2⟩=>⟨h1,cv2,gv,h2⟩)
theorem ca_12 (w0 w:World) (M KB SB OB UB:Nat) (cv sv gv:Value) (l ss:List Int) (gs:List (Int × Int)) (jt jf k:Int) (h:CM w0 w M KB SB OB UB cv sv gv l ss gs) (hl:l.length≤80000) (uk:U32 k) (hs:ss.length≤1000) (hs1:1≤ss.length) (hgs:gs.length≤9000) (hjt:0≤jt∧jt≤4294967295) (hjf:0≤jf∧jf≤4294967295) :
  Calls Tryz.prog 76 #[.pointer (some ⟨M,0,none⟩),.agg #[.int .i64 12,.int .i64 jt,.int .i64 jf,.int .i64 k]] w fun e w'=>e=.returned (.tuple #[])∧APost w0 w' M KB SB OB UB sv (l++piece (kd 12) k 0 0) ss (gs++gp (kd 12) l.length ss.length jt jf k):=by
 have e:gp (kd 12) l.length ss.length jt jf k=[]:=rfl
 rw [e,List.append_nil]
 exact add_c6 w0 w M KB SB OB UB cv sv gv l ss gs 12 jt jf k _ h rfl (fun w' h'=>(cf_12 w0 w' M KB SB OB UB cv sv gv l ss gs jt jf k h' hl uk).mono fun e w2 ⟨h1,cv2,h2⟩=>⟨h1,cv2,gv,h2⟩)
theorem ca_28 (w0 w:World) (M KB SB OB UB:Nat) (cv sv gv:Value) (l ss:List Int) (gs:List (Int × Int)) (jt jf k:Int) (h:CM w0 w M KB SB OB UB cv sv gv l ss gs) (hl:l.length≤80000) (uk:U32 k) (hs:ss.length≤1000) (hs1:1≤ss.length) (hgs:gs.length≤9000) (hjt:0≤jt∧jt≤4294967295) (hjf:0≤jf∧jf≤4294967295) :
  Calls Tryz.prog 76 #[.pointer (some ⟨M,0,none⟩),.agg #[.int .i64 28,.int .i64 jt,.int .i64 jf,.int .i64 k]] w fun e w'=>e=.returned (.tuple #[])∧APost w0 w' M KB SB OB UB sv (l++piece (kd 28) k 0 0) ss (gs++gp (kd 28) l.length ss.length jt jf k):=by
 have e:gp (kd 28) l.length ss.length jt jf k=[]:=rfl
 rw [e,List.append_nil]
 exact add_c6 w0 w M KB SB OB UB cv sv gv l ss gs 28 jt jf k _ h rfl (fun w' h'=>(cf_28 w0 w' M KB SB OB UB cv sv gv l ss gs jt jf k h' hl uk).mono fun e w2 ⟨h1,cv2,h2⟩=>⟨h1,cv2,gv,h2⟩)
theorem ca_44 (w0 w:World) (M KB SB OB UB:Nat) (cv sv gv:Value) (l ss:List Int) (gs:List (Int × Int)) (jt jf k:Int) (h:CM w0 w M KB SB OB UB cv sv gv l ss gs) (hl:l.length≤80000) (uk:U32 k) (hs:ss.length≤1000) (hs1:1≤ss.length) (hgs:gs.length≤9000) (hjt:0≤jt∧jt≤4294967295) (hjf:0≤jf∧jf≤4294967295) :
  Calls Tryz.prog 76 #[.pointer (some ⟨M,0,none⟩),.agg #[.int .i64 44,.int .i64 jt,.int .i64 jf,.int .i64 k]] w fun e w'=>e=.returned (.tuple #[])∧APost w0 w' M KB SB OB UB sv (l++piece (kd 44) k 0 0) ss (gs++gp (kd 44) l.length ss.length jt jf k):=by
 have e:gp (kd 44) l.length ss.length jt jf k=[]:=rfl
 rw [e,List.append_nil]
 exact add_c6 w0 w M KB SB OB UB cv sv gv l ss gs 44 jt jf k _ h rfl (fun w' h'=>(cf_44 w0 w' M KB SB OB UB cv sv gv l ss gs jt jf k h' hl uk).mono fun e w2 ⟨h1,cv2,h2⟩=>⟨h1,cv2,gv,h2⟩)
theorem ca_60 (w0 w:World) (M KB SB OB UB:Nat) (cv sv gv:Value) (l ss:List Int) (gs:List (Int × Int)) (jt jf k:Int) (h:CM w0 w M KB SB OB UB cv sv gv l ss gs) (hl:l.length≤80000) (uk:U32 k) (hs:ss.length≤1000) (hs1:1≤ss.length) (hgs:gs.length≤9000) (hjt:0≤jt∧jt≤4294967295) (hjf:0≤jf∧jf≤4294967295) :
  Calls Tryz.prog 76 #[.pointer (some ⟨M,0,none⟩),.agg #[.int .i64 60,.int .i64 jt,.int .i64 jf,.int .i64 k]] w fun e w'=>e=.returned (.tuple #[])∧APost w0 w' M KB SB OB UB sv (l++piece (kd 60) k 0 0) ss (gs++gp (kd 60) l.length ss.length jt jf k):=by
 have e:gp (kd 60) l.length ss.length jt jf k=[]:=rfl
 rw [e,List.append_nil]
 exact add_c6 w0 w M KB SB OB UB cv sv gv l ss gs 60 jt jf k _ h rfl (fun w' h'=>(cf_60 w0 w' M KB SB OB UB cv sv gv l ss gs jt jf k h' hl uk).mono fun e w2 ⟨h1,cv2,h2⟩=>⟨h1,cv2,gv,h2⟩)
theorem ca_156 (w0 w:World) (M KB SB OB UB:Nat) (cv sv gv:Value) (l ss:List Int) (gs:List (Int × Int)) (jt jf k:Int) (h:CM w0 w M KB SB OB UB cv sv gv l ss gs) (hl:l.length≤80000) (uk:U32 k) (hs:ss.length≤1000) (hs1:1≤ss.length) (hgs:gs.length≤9000) (hjt:0≤jt∧jt≤4294967295) (hjf:0≤jf∧jf≤4294967295) :
  Calls Tryz.prog 76 #[.pointer (some ⟨M,0,none⟩),.agg #[.int .i64 156,.int .i64 jt,.int .i64 jf,.int .i64 k]] w fun e w'=>e=.returned (.tuple #[])∧APost w0 w' M KB SB OB UB sv (l++piece (kd 156) k 0 0) ss (gs++gp (kd 156) l.length ss.length jt jf k):=by
 have e:gp (kd 156) l.length ss.length jt jf k=[]:=rfl
 rw [e,List.append_nil]
 exact add_c6 w0 w M KB SB OB UB cv sv gv l ss gs 156 jt jf k _ h rfl (fun w' h'=>(cf_156 w0 w' M KB SB OB UB cv sv gv l ss gs jt jf k h' hl uk).mono fun e w2 ⟨h1,cv2,h2⟩=>⟨h1,cv2,gv,h2⟩)
theorem ca_76 (w0 w:World) (M KB SB OB UB:Nat) (cv sv gv:Value) (l ss:List Int) (gs:List (Int × Int)) (jt jf k:Int) (h:CM w0 w M KB SB OB UB cv sv gv l ss gs) (hl:l.length≤80000) (uk:U32 k) (hs:ss.length≤1000) (hs1:1≤ss.length) (hgs:gs.length≤9000) (hjt:0≤jt∧jt≤4294967295) (hjf:0≤jf∧jf≤4294967295) :
  Calls Tryz.prog 76 #[.pointer (some ⟨M,0,none⟩),.agg #[.int .i64 76,.int .i64 jt,.int .i64 jf,.int .i64 k]] w fun e w'=>e=.returned (.tuple #[])∧APost w0 w' M KB SB OB UB sv (l++piece (kd 76) k 0 0) ss (gs++gp (kd 76) l.length ss.length jt jf k):=by
 have e:gp (kd 76) l.length ss.length jt jf k=[]:=rfl
 rw [e,List.append_nil]
 exact add_c6 w0 w M KB SB OB UB cv sv gv l ss gs 76 jt jf k _ h rfl (fun w' h'=>(cf_76 w0 w' M KB SB OB UB cv sv gv l ss gs jt jf k h' hl uk).mono fun e w2 ⟨h1,cv2,h2⟩=>⟨h1,cv2,gv,h2⟩)
theorem ca_92 (w0 w:World) (M KB SB OB UB:Nat) (cv sv gv:Value) (l ss:List Int) (gs:List (Int × Int)) (jt jf k:Int) (h:CM w0 w M KB SB OB UB cv sv gv l ss gs) (hl:l.length≤80000) (uk:U32 k) (hs:ss.length≤1000) (hs1:1≤ss.length) (hgs:gs.length≤9000) (hjt:0≤jt∧jt≤4294967295) (hjf:0≤jf∧jf≤4294967295) :
  Calls Tryz.prog 76 #[.pointer (some ⟨M,0,none⟩),.agg #[.int .i64 92,.int .i64 jt,.int .i64 jf,.int .i64 k]] w fun e w'=>e=.returned (.tuple #[])∧APost w0 w' M KB SB OB UB sv (l++piece (kd 92) k 0 0) ss (gs++gp (kd 92) l.length ss.length jt jf k):=by
 have e:gp (kd 92) l.length ss.length jt jf k=[]:=rfl
 rw [e,List.append_nil]
 exact add_c6 w0 w M KB SB OB UB cv sv gv l ss gs 92 jt jf k _ h rfl (fun w' h'=>(cf_92 w0 w' M KB SB OB UB cv sv gv l ss gs jt jf k h' hl uk).mono fun e w2 ⟨h1,cv2,h2⟩=>⟨h1,cv2,gv,h2⟩)
theorem ca_172 (w0 w:World) (M KB SB OB UB:Nat) (cv sv gv:Value) (l ss:List Int) (gs:List (Int × Int)) (jt jf k:Int) (h:CM w0 w M KB SB OB UB cv sv gv l ss gs) (hl:l.length≤80000) (uk:U32 k) (hs:ss.length≤1000) (hs1:1≤ss.length) (hgs:gs.length≤9000) (hjt:0≤jt∧jt≤4294967295) (hjf:0≤jf∧jf≤4294967295) :
  Calls Tryz.prog 76 #[.pointer (some ⟨M,0,none⟩),.agg #[.int .i64 172,.int .i64 jt,.int .i64 jf,.int .i64 k]] w fun e w'=>e=.returned (.tuple #[])∧APost w0 w' M KB SB OB UB sv (l++piece (kd 172) k 0 0) ss (gs++gp (kd 172) l.length ss.length jt jf k):=by
 have e:gp (kd 172) l.length ss.length jt jf k=[]:=rfl
 rw [e,List.append_nil]
 exact add_c6 w0 w M KB SB OB UB cv sv gv l ss gs 172 jt jf k _ h rfl (fun w' h'=>(cf_172 w0 w' M KB SB OB UB cv sv gv l ss gs jt jf k h' hl uk).mono fun e w2 ⟨h1,cv2,h2⟩=>⟨h1,cv2,gv,h2⟩)
theorem ca_108 (w0 w:World) (M KB SB OB UB:Nat) (cv sv gv:Value) (l ss:List Int) (gs:List (Int × Int)) (jt jf k:Int) (h:CM w0 w M KB SB OB UB cv sv gv l ss gs) (hl:l.length≤80000) (uk:U32 k) (hs:ss.length≤1000) (hs1:1≤ss.length) (hgs:gs.length≤9000) (hjt:0≤jt∧jt≤4294967295) (hjf:0≤jf∧jf≤4294967295) :
  Calls Tryz.prog 76 #[.pointer (some ⟨M,0,none⟩),.agg #[.int .i64 108,.int .i64 jt,.int .i64 jf,.int .i64 k]] w fun e w'=>e=.returned (.tuple #[])∧APost w0 w' M KB SB OB UB sv (l++piece (kd 108) k 0 0) ss (gs++gp (kd 108) l.length ss.length jt jf k):=by
 have e:gp (kd 108) l.length ss.length jt jf k=[]:=rfl
 rw [e,List.append_nil]
 exact add_c6 w0 w M KB SB OB UB cv sv gv l ss gs 108 jt jf k _ h rfl (fun w' h'=>(cf_108 w0 w' M KB SB OB UB cv sv gv l ss gs jt jf k h' hl uk).mono fun e w2 ⟨h1,cv2,h2⟩=>⟨h1,cv2,gv,h2⟩)
theorem ca_124 (w0 w:World) (M KB SB OB UB:Nat) (cv sv gv:Value) (l ss:List Int) (gs:List (Int × Int)) (jt jf k:Int) (h:CM w0 w M KB SB OB UB cv sv gv l ss gs) (hl:l.length≤80000) (uk:U32 k) (hs:ss.length≤1000) (hs1:1≤ss.length) (hgs:gs.length≤9000) (hjt:0≤jt∧jt≤4294967295) (hjf:0≤jf∧jf≤4294967295) :
  Calls Tryz.prog 76 #[.pointer (some ⟨M,0,none⟩),.agg #[.int .i64 124,.int .i64 jt,.int .i64 jf,.int .i64 k]] w fun e w'=>e=.returned (.tuple #[])∧APost w0 w' M KB SB OB UB sv (l++piece (kd 124) k 0 0) ss (gs++gp (kd 124) l.length ss.length jt jf k):=by
 have e:gp (kd 124) l.length ss.length jt jf k=[]:=rfl
 rw [e,List.append_nil]
 exact add_c6 w0 w M KB SB OB UB cv sv gv l ss gs 124 jt jf k _ h rfl (fun w' h'=>(cf_124 w0 w' M KB SB OB UB cv sv gv l ss gs jt jf k h' hl uk).mono fun e w2 ⟨h1,cv2,h2⟩=>⟨h1,cv2,gv,h2⟩)
theorem ca_21 (w0 w:World) (M KB SB OB UB:Nat) (cv sv gv:Value) (l ss:List Int) (gs:List (Int × Int)) (jt jf k:Int) (h:CM w0 w M KB SB OB UB cv sv gv l ss gs) (hl:l.length≤80000) (uk:U32 k) (hs:ss.length≤1000) (hs1:1≤ss.length) (hgs:gs.length≤9000) (hjt:0≤jt∧jt≤4294967295) (hjf:0≤jf∧jf≤4294967295) :
  Calls Tryz.prog 76 #[.pointer (some ⟨M,0,none⟩),.agg #[.int .i64 21,.int .i64 jt,.int .i64 jf,.int .i64 k]] w fun e w'=>e=.returned (.tuple #[])∧APost w0 w' M KB SB OB UB sv (l++piece (kd 21) k 0 0) ss (gs++gp (kd 21) l.length ss.length jt jf k):=by
 have e:gp (kd 21) l.length ss.length jt jf k=[((l.length:Int)+11,(ss.length:Int)+jt),((l.length:Int)+14,(ss.length:Int)+jf)]:=by
  rw [show kd 21=⟨21,11,0,false,0,10⟩ from rfl]
  simp only [gp,Int.reduceEq,if_true,if_false]
  rw [show plen ⟨21,11,0,false,0,10⟩=14 from rfl]
  congr 2;omega
 rw [e]
 exact add_c10 w0 w M KB SB OB UB cv sv gv l ss gs 21 jt jf k _ h rfl (fun w' h'=>(cj_21 w0 w' M KB SB OB UB cv sv gv l ss gs jt jf k h' hl uk hs hs1 hgs hjt hjf).mono fun e w2 ⟨h1,cv2,gv2,h2⟩=>⟨h1,cv2,gv2,h2⟩)
theorem ca_37 (w0 w:World) (M KB SB OB UB:Nat) (cv sv gv:Value) (l ss:List Int) (gs:List (Int × Int)) (jt jf k:Int) (h:CM w0 w M KB SB OB UB cv sv gv l ss gs) (hl:l.length≤80000) (uk:U32 k) (hs:ss.length≤1000) (hs1:1≤ss.length) (hgs:gs.length≤9000) (hjt:0≤jt∧jt≤4294967295) (hjf:0≤jf∧jf≤4294967295) :
  Calls Tryz.prog 76 #[.pointer (some ⟨M,0,none⟩),.agg #[.int .i64 37,.int .i64 jt,.int .i64 jf,.int .i64 k]] w fun e w'=>e=.returned (.tuple #[])∧APost w0 w' M KB SB OB UB sv (l++piece (kd 37) k 0 0) ss (gs++gp (kd 37) l.length ss.length jt jf k):=by
 have e:gp (kd 37) l.length ss.length jt jf k=[((l.length:Int)+11,(ss.length:Int)+jt),((l.length:Int)+14,(ss.length:Int)+jf)]:=by
  rw [show kd 37=⟨37,11,0,false,1,10⟩ from rfl]
  simp only [gp,Int.reduceEq,if_true,if_false]
  rw [show plen ⟨37,11,0,false,1,10⟩=14 from rfl]
  congr 2;omega
 rw [e]
 exact add_c10 w0 w M KB SB OB UB cv sv gv l ss gs 37 jt jf k _ h rfl (fun w' h'=>(cj_37 w0 w' M KB SB OB UB cv sv gv l ss gs jt jf k h' hl uk hs hs1 hgs hjt hjf).mono fun e w2 ⟨h1,cv2,gv2,h2⟩=>⟨h1,cv2,gv2,h2⟩)
theorem ca_53 (w0 w:World) (M KB SB OB UB:Nat) (cv sv gv:Value) (l ss:List Int) (gs:List (Int × Int)) (jt jf k:Int) (h:CM w0 w M KB SB OB UB cv sv gv l ss gs) (hl:l.length≤80000) (uk:U32 k) (hs:ss.length≤1000) (hs1:1≤ss.length) (hgs:gs.length≤9000) (hjt:0≤jt∧jt≤4294967295) (hjf:0≤jf∧jf≤4294967295) :
  Calls Tryz.prog 76 #[.pointer (some ⟨M,0,none⟩),.agg #[.int .i64 53,.int .i64 jt,.int .i64 jf,.int .i64 k]] w fun e w'=>e=.returned (.tuple #[])∧APost w0 w' M KB SB OB UB sv (l++piece (kd 53) k 0 0) ss (gs++gp (kd 53) l.length ss.length jt jf k):=by
 have e:gp (kd 53) l.length ss.length jt jf k=[((l.length:Int)+11,(ss.length:Int)+jt),((l.length:Int)+14,(ss.length:Int)+jf)]:=by
  rw [show kd 53=⟨53,11,0,false,2,10⟩ from rfl]
  simp only [gp,Int.reduceEq,if_true,if_false]
  rw [show plen ⟨53,11,0,false,2,10⟩=14 from rfl]
  congr 2;omega
 rw [e]
 exact add_c10 w0 w M KB SB OB UB cv sv gv l ss gs 53 jt jf k _ h rfl (fun w' h'=>(cj_53 w0 w' M KB SB OB UB cv sv gv l ss gs jt jf k h' hl uk hs hs1 hgs hjt hjf).mono fun e w2 ⟨h1,cv2,gv2,h2⟩=>⟨h1,cv2,gv2,h2⟩)
theorem ca_69 (w0 w:World) (M KB SB OB UB:Nat) (cv sv gv:Value) (l ss:List Int) (gs:List (Int × Int)) (jt jf k:Int) (h:CM w0 w M KB SB OB UB cv sv gv l ss gs) (hl:l.length≤80000) (uk:U32 k) (hs:ss.length≤1000) (hs1:1≤ss.length) (hgs:gs.length≤9000) (hjt:0≤jt∧jt≤4294967295) (hjf:0≤jf∧jf≤4294967295) :
  Calls Tryz.prog 76 #[.pointer (some ⟨M,0,none⟩),.agg #[.int .i64 69,.int .i64 jt,.int .i64 jf,.int .i64 k]] w fun e w'=>e=.returned (.tuple #[])∧APost w0 w' M KB SB OB UB sv (l++piece (kd 69) k 0 0) ss (gs++gp (kd 69) l.length ss.length jt jf k):=by
 have e:gp (kd 69) l.length ss.length jt jf k=[((l.length:Int)+11,(ss.length:Int)+jt),((l.length:Int)+14,(ss.length:Int)+jf)]:=by
  rw [show kd 69=⟨69,11,0,false,3,10⟩ from rfl]
  simp only [gp,Int.reduceEq,if_true,if_false]
  rw [show plen ⟨69,11,0,false,3,10⟩=14 from rfl]
  congr 2;omega
 rw [e]
 exact add_c10 w0 w M KB SB OB UB cv sv gv l ss gs 69 jt jf k _ h rfl (fun w' h'=>(cj_69 w0 w' M KB SB OB UB cv sv gv l ss gs jt jf k h' hl uk hs hs1 hgs hjt hjf).mono fun e w2 ⟨h1,cv2,gv2,h2⟩=>⟨h1,cv2,gv2,h2⟩)
theorem ca_29 (w0 w:World) (M KB SB OB UB:Nat) (cv sv gv:Value) (l ss:List Int) (gs:List (Int × Int)) (jt jf k:Int) (h:CM w0 w M KB SB OB UB cv sv gv l ss gs) (hl:l.length≤80000) (uk:U32 k) (hs:ss.length≤1000) (hs1:1≤ss.length) (hgs:gs.length≤9000) (hjt:0≤jt∧jt≤4294967295) (hjf:0≤jf∧jf≤4294967295) :
  Calls Tryz.prog 76 #[.pointer (some ⟨M,0,none⟩),.agg #[.int .i64 29,.int .i64 jt,.int .i64 jf,.int .i64 k]] w fun e w'=>e=.returned (.tuple #[])∧APost w0 w' M KB SB OB UB sv (l++piece (kd 29) k 0 0) ss (gs++gp (kd 29) l.length ss.length jt jf k):=by
 have e:gp (kd 29) l.length ss.length jt jf k=[((l.length:Int)+8,(ss.length:Int)+jt),((l.length:Int)+11,(ss.length:Int)+jf)]:=by
  rw [show kd 29=⟨29,11,0,true,0,10⟩ from rfl]
  simp only [gp,Int.reduceEq,if_true,if_false]
  rw [show plen ⟨29,11,0,true,0,10⟩=11 from rfl]
  congr 2;omega
 rw [e]
 exact add_c10 w0 w M KB SB OB UB cv sv gv l ss gs 29 jt jf k _ h rfl (fun w' h'=>(cj_29 w0 w' M KB SB OB UB cv sv gv l ss gs jt jf k h' hl uk hs hs1 hgs hjt hjf).mono fun e w2 ⟨h1,cv2,gv2,h2⟩=>⟨h1,cv2,gv2,h2⟩)
theorem ca_45 (w0 w:World) (M KB SB OB UB:Nat) (cv sv gv:Value) (l ss:List Int) (gs:List (Int × Int)) (jt jf k:Int) (h:CM w0 w M KB SB OB UB cv sv gv l ss gs) (hl:l.length≤80000) (uk:U32 k) (hs:ss.length≤1000) (hs1:1≤ss.length) (hgs:gs.length≤9000) (hjt:0≤jt∧jt≤4294967295) (hjf:0≤jf∧jf≤4294967295) :
  Calls Tryz.prog 76 #[.pointer (some ⟨M,0,none⟩),.agg #[.int .i64 45,.int .i64 jt,.int .i64 jf,.int .i64 k]] w fun e w'=>e=.returned (.tuple #[])∧APost w0 w' M KB SB OB UB sv (l++piece (kd 45) k 0 0) ss (gs++gp (kd 45) l.length ss.length jt jf k):=by
 have e:gp (kd 45) l.length ss.length jt jf k=[((l.length:Int)+8,(ss.length:Int)+jt),((l.length:Int)+11,(ss.length:Int)+jf)]:=by
  rw [show kd 45=⟨45,11,0,true,1,10⟩ from rfl]
  simp only [gp,Int.reduceEq,if_true,if_false]
  rw [show plen ⟨45,11,0,true,1,10⟩=11 from rfl]
  congr 2;omega
 rw [e]
 exact add_c10 w0 w M KB SB OB UB cv sv gv l ss gs 45 jt jf k _ h rfl (fun w' h'=>(cj_45 w0 w' M KB SB OB UB cv sv gv l ss gs jt jf k h' hl uk hs hs1 hgs hjt hjf).mono fun e w2 ⟨h1,cv2,gv2,h2⟩=>⟨h1,cv2,gv2,h2⟩)
theorem ca_61 (w0 w:World) (M KB SB OB UB:Nat) (cv sv gv:Value) (l ss:List Int) (gs:List (Int × Int)) (jt jf k:Int) (h:CM w0 w M KB SB OB UB cv sv gv l ss gs) (hl:l.length≤80000) (uk:U32 k) (hs:ss.length≤1000) (hs1:1≤ss.length) (hgs:gs.length≤9000) (hjt:0≤jt∧jt≤4294967295) (hjf:0≤jf∧jf≤4294967295) :
  Calls Tryz.prog 76 #[.pointer (some ⟨M,0,none⟩),.agg #[.int .i64 61,.int .i64 jt,.int .i64 jf,.int .i64 k]] w fun e w'=>e=.returned (.tuple #[])∧APost w0 w' M KB SB OB UB sv (l++piece (kd 61) k 0 0) ss (gs++gp (kd 61) l.length ss.length jt jf k):=by
 have e:gp (kd 61) l.length ss.length jt jf k=[((l.length:Int)+8,(ss.length:Int)+jt),((l.length:Int)+11,(ss.length:Int)+jf)]:=by
  rw [show kd 61=⟨61,11,0,true,2,10⟩ from rfl]
  simp only [gp,Int.reduceEq,if_true,if_false]
  rw [show plen ⟨61,11,0,true,2,10⟩=11 from rfl]
  congr 2;omega
 rw [e]
 exact add_c10 w0 w M KB SB OB UB cv sv gv l ss gs 61 jt jf k _ h rfl (fun w' h'=>(cj_61 w0 w' M KB SB OB UB cv sv gv l ss gs jt jf k h' hl uk hs hs1 hgs hjt hjf).mono fun e w2 ⟨h1,cv2,gv2,h2⟩=>⟨h1,cv2,gv2,h2⟩)
theorem ca_77 (w0 w:World) (M KB SB OB UB:Nat) (cv sv gv:Value) (l ss:List Int) (gs:List (Int × Int)) (jt jf k:Int) (h:CM w0 w M KB SB OB UB cv sv gv l ss gs) (hl:l.length≤80000) (uk:U32 k) (hs:ss.length≤1000) (hs1:1≤ss.length) (hgs:gs.length≤9000) (hjt:0≤jt∧jt≤4294967295) (hjf:0≤jf∧jf≤4294967295) :
  Calls Tryz.prog 76 #[.pointer (some ⟨M,0,none⟩),.agg #[.int .i64 77,.int .i64 jt,.int .i64 jf,.int .i64 k]] w fun e w'=>e=.returned (.tuple #[])∧APost w0 w' M KB SB OB UB sv (l++piece (kd 77) k 0 0) ss (gs++gp (kd 77) l.length ss.length jt jf k):=by
 have e:gp (kd 77) l.length ss.length jt jf k=[((l.length:Int)+8,(ss.length:Int)+jt),((l.length:Int)+11,(ss.length:Int)+jf)]:=by
  rw [show kd 77=⟨77,11,0,true,3,10⟩ from rfl]
  simp only [gp,Int.reduceEq,if_true,if_false]
  rw [show plen ⟨77,11,0,true,3,10⟩=11 from rfl]
  congr 2;omega
 rw [e]
 exact add_c10 w0 w M KB SB OB UB cv sv gv l ss gs 77 jt jf k _ h rfl (fun w' h'=>(cj_77 w0 w' M KB SB OB UB cv sv gv l ss gs jt jf k h' hl uk hs hs1 hgs hjt hjf).mono fun e w2 ⟨h1,cv2,gv2,h2⟩=>⟨h1,cv2,gv2,h2⟩)
theorem ca_any (w0 w:World) (M KB SB OB UB:Nat) (cv sv gv:Value) (l ss:List Int) (gs:List (Int × Int)) (jt jf k:Int) (h:CM w0 w M KB SB OB UB cv sv gv l ss gs) (hl:l.length≤80000) (uk:U32 k) (hs:ss.length≤1000) (hs1:1≤ss.length) (hgs:gs.length≤9000) (hjt:0≤jt∧jt≤4294967295) (hjf:0≤jf∧jf≤4294967295) (C:Int) (hC:okk C=true) (k16:((kd C).kind=3∨(kd C).kind=6)→k<16) :
  Calls Tryz.prog 76 #[.pointer (some ⟨M,0,none⟩),.agg #[.int .i64 C,.int .i64 jt,.int .i64 jf,.int .i64 k]] w fun e w'=>e=.returned (.tuple #[])∧APost w0 w' M KB SB OB UB sv (l++piece (kd C) k 0 0) ss (gs++gp (kd C) l.length ss.length jt jf k):=by
 rcases okk_casesC hC with rfl | rfl | rfl | rfl | rfl | rfl | rfl | rfl | rfl | rfl | rfl | rfl | rfl | rfl | rfl | rfl | rfl | rfl | rfl | rfl | rfl | rfl | rfl | rfl | rfl | rfl | rfl | rfl | rfl | rfl | rfl | rfl | rfl | rfl | rfl | rfl | rfl | rfl | rfl | rfl | rfl | rfl | rfl | rfl | rfl | rfl | rfl | rfl | rfl
 ·exact ca_32 w0 w M KB SB OB UB cv sv gv l ss gs jt jf k h hl uk hs hs1 hgs hjt hjf
 ·exact ca_40 w0 w M KB SB OB UB cv sv gv l ss gs jt jf k h hl uk hs hs1 hgs hjt hjf
 ·exact ca_48 w0 w M KB SB OB UB cv sv gv l ss gs jt jf k h hl uk hs hs1 hgs hjt hjf
 ·exact ca_64 w0 w M KB SB OB UB cv sv gv l ss gs jt jf k h hl uk hs hs1 hgs hjt hjf
 ·exact ca_72 w0 w M KB SB OB UB cv sv gv l ss gs jt jf k h hl uk hs hs1 hgs hjt hjf
 ·exact ca_80 w0 w M KB SB OB UB cv sv gv l ss gs jt jf k h hl uk hs hs1 hgs hjt hjf
 ·exact ca_0 w0 w M KB SB OB UB cv sv gv l ss gs jt jf k h hl uk hs hs1 hgs hjt hjf
 ·exact ca_1 w0 w M KB SB OB UB cv sv gv l ss gs jt jf k h hl uk hs hs1 hgs hjt hjf
 ·exact ca_96 w0 w M KB SB OB UB cv sv gv l ss gs jt jf k h hl uk hs hs1 hgs hjt hjf (k16 (Or.inl rfl))
 ·exact ca_97 w0 w M KB SB OB UB cv sv gv l ss gs jt jf k h hl uk hs hs1 hgs hjt hjf (k16 (Or.inl rfl))
 ·exact ca_128 w0 w M KB SB OB UB cv sv gv l ss gs jt jf k h hl uk hs hs1 hgs hjt hjf
 ·exact ca_129 w0 w M KB SB OB UB cv sv gv l ss gs jt jf k h hl uk hs hs1 hgs hjt hjf
 ·exact ca_177 w0 w M KB SB OB UB cv sv gv l ss gs jt jf k h hl uk hs hs1 hgs hjt hjf
 ·exact ca_2 w0 w M KB SB OB UB cv sv gv l ss gs jt jf k h hl uk hs hs1 hgs hjt hjf (k16 (Or.inr rfl))
 ·exact ca_3 w0 w M KB SB OB UB cv sv gv l ss gs jt jf k h hl uk hs hs1 hgs hjt hjf (k16 (Or.inr rfl))
 ·exact ca_7 w0 w M KB SB OB UB cv sv gv l ss gs jt jf k h hl uk hs hs1 hgs hjt hjf
 ·exact ca_135 w0 w M KB SB OB UB cv sv gv l ss gs jt jf k h hl uk hs hs1 hgs hjt hjf
 ·exact ca_132 w0 w M KB SB OB UB cv sv gv l ss gs jt jf k h hl uk hs hs1 hgs hjt hjf
 ·exact ca_5 w0 w M KB SB OB UB cv sv gv l ss gs jt jf k h hl uk hs hs1 hgs hjt hjf
 ·exact ca_6 w0 w M KB SB OB UB cv sv gv l ss gs jt jf k h hl uk hs hs1 hgs hjt hjf
 ·exact ca_22 w0 w M KB SB OB UB cv sv gv l ss gs jt jf k h hl uk hs hs1 hgs hjt hjf
 ·exact ca_4 w0 w M KB SB OB UB cv sv gv l ss gs jt jf k h hl uk hs hs1 hgs hjt hjf
 ·exact ca_20 w0 w M KB SB OB UB cv sv gv l ss gs jt jf k h hl uk hs hs1 hgs hjt hjf
 ·exact ca_36 w0 w M KB SB OB UB cv sv gv l ss gs jt jf k h hl uk hs hs1 hgs hjt hjf
 ·exact ca_52 w0 w M KB SB OB UB cv sv gv l ss gs jt jf k h hl uk hs hs1 hgs hjt hjf
 ·exact ca_148 w0 w M KB SB OB UB cv sv gv l ss gs jt jf k h hl uk hs hs1 hgs hjt hjf
 ·exact ca_68 w0 w M KB SB OB UB cv sv gv l ss gs jt jf k h hl uk hs hs1 hgs hjt hjf
 ·exact ca_84 w0 w M KB SB OB UB cv sv gv l ss gs jt jf k h hl uk hs hs1 hgs hjt hjf
 ·exact ca_164 w0 w M KB SB OB UB cv sv gv l ss gs jt jf k h hl uk hs hs1 hgs hjt hjf
 ·exact ca_100 w0 w M KB SB OB UB cv sv gv l ss gs jt jf k h hl uk hs hs1 hgs hjt hjf
 ·exact ca_116 w0 w M KB SB OB UB cv sv gv l ss gs jt jf k h hl uk hs hs1 hgs hjt hjf
 ·exact ca_12 w0 w M KB SB OB UB cv sv gv l ss gs jt jf k h hl uk hs hs1 hgs hjt hjf
 ·exact ca_28 w0 w M KB SB OB UB cv sv gv l ss gs jt jf k h hl uk hs hs1 hgs hjt hjf
 ·exact ca_44 w0 w M KB SB OB UB cv sv gv l ss gs jt jf k h hl uk hs hs1 hgs hjt hjf
 ·exact ca_60 w0 w M KB SB OB UB cv sv gv l ss gs jt jf k h hl uk hs hs1 hgs hjt hjf
 ·exact ca_156 w0 w M KB SB OB UB cv sv gv l ss gs jt jf k h hl uk hs hs1 hgs hjt hjf
 ·exact ca_76 w0 w M KB SB OB UB cv sv gv l ss gs jt jf k h hl uk hs hs1 hgs hjt hjf
 ·exact ca_92 w0 w M KB SB OB UB cv sv gv l ss gs jt jf k h hl uk hs hs1 hgs hjt hjf
 ·exact ca_172 w0 w M KB SB OB UB cv sv gv l ss gs jt jf k h hl uk hs hs1 hgs hjt hjf
 ·exact ca_108 w0 w M KB SB OB UB cv sv gv l ss gs jt jf k h hl uk hs hs1 hgs hjt hjf
 ·exact ca_124 w0 w M KB SB OB UB cv sv gv l ss gs jt jf k h hl uk hs hs1 hgs hjt hjf
 ·exact ca_21 w0 w M KB SB OB UB cv sv gv l ss gs jt jf k h hl uk hs hs1 hgs hjt hjf
 ·exact ca_37 w0 w M KB SB OB UB cv sv gv l ss gs jt jf k h hl uk hs hs1 hgs hjt hjf
 ·exact ca_53 w0 w M KB SB OB UB cv sv gv l ss gs jt jf k h hl uk hs hs1 hgs hjt hjf
 ·exact ca_69 w0 w M KB SB OB UB cv sv gv l ss gs jt jf k h hl uk hs hs1 hgs hjt hjf
 ·exact ca_29 w0 w M KB SB OB UB cv sv gv l ss gs jt jf k h hl uk hs hs1 hgs hjt hjf
 ·exact ca_45 w0 w M KB SB OB UB cv sv gv l ss gs jt jf k h hl uk hs hs1 hgs hjt hjf
 ·exact ca_61 w0 w M KB SB OB UB cv sv gv l ss gs jt jf k h hl uk hs hs1 hgs hjt hjf
 ·exact ca_77 w0 w M KB SB OB UB cv sv gv l ss gs jt jf k h hl uk hs hs1 hgs hjt hjf
end Go.Proofs.YthbcfepbkkbjiaaGreatDoor
namespace Go.Proofs.YthbcfepbkkbjiaaGreatDoor
open Go.RowKit
theorem Tryz.infoIntC:(Tryz.prog.info? 3).map (fun i=>(i.zero,i.size,i.bytes))=some (some (.int .i64 0),1,8):=by kernel_rfl
def sts (q:Nat→Int):Nat→List Int
 | 0=>[]
 | i+1=>sts q i ++ [(start q i:Int)]
theorem sts_len (q:Nat→Int):∀ i,(sts q i).length=i
 | 0=>rfl
 | i+1=>by unfold sts;rw [List.length_append,sts_len q i];rfl
theorem sts_get (q:Nat→Int):∀ (i j:Nat),j<i→(sts q i).getD j 0=start q j
 | i+1,j,h=>by
  unfold sts
  by_cases hj:j<i
  ·have:=sts_get q i j hj
   simp only [List.getD_eq_getElem?_getD] at this ⊢
   rw [List.getElem?_append_left (by rw [sts_len];exact hj),this]
  ·have:j=i:=by omega
   subst this
   simp only [List.getD_eq_getElem?_getD]
   rw [List.getElem?_append_right (by rw [sts_len];omega),sts_len,Nat.sub_self]
   rfl
theorem sts_out (q:Nat→Int) (i j:Nat) (h:¬ j<i):(sts q i).getD j 0=0:=by
 simp only [List.getD_eq_getElem?_getD]
 rw [List.getElem?_eq_none (by rw [sts_len];omega)]
 rfl
theorem gp_gapsI (q:Nat→Int) (i:Nat):gp (kd (q (4*i))) (start q i) ((i:Int)+1) (q (4*i+1)) (q (4*i+2)) (q (4*i+3))=gapsI q i:=by
 unfold gp gapsI
 have e:(start q (i+1):Int)=start q i+plen (kd (q (4*i))):=by show ((start q i+plen (kd (q (4*i))):Nat):Int)=_;rw [Int.natCast_add]
 rw [e]
theorem plen_pos (C:Int):1≤plen (kd C):=kd_all (fun r=>1≤plen r) (by decide) C (by show 1≤(pW 0 ++ [9]).length;decide)
theorem start_pos (q:Nat→Int) {n:Nat} (h:1≤n):1≤start q n:=by
 have h1:start q 1≤start q n:=start_mono q h
 have h2:start q 1=0+plen (kd (q (4*0))):=rfl
 have:=plen_pos (q (4*0))
 omega
theorem gapsI_len (q:Nat→Int) (i:Nat):(gapsI q i).length≤2:=by
 unfold gapsI
 split
 ·simp
 ·split <;> simp
theorem gapsU_len (q:Nat→Int):∀ i,(gapsU q i).length≤2*i
 | 0=>by simp [gapsU]
 | i+1=>by unfold gapsU;rw [List.length_append];have:=gapsU_len q i;have:=gapsI_len q i;omega
theorem gaps_fit {q:Nat→Int} {n:Nat} (h:Good q n):∀ i,i≤n→∀ g ∈ gapsU q i,2≤g.1∧g.1≤start q n∧0≤g.2∧g.2<n
 | 0,_,g,hg=>by cases hg
 | i+1,hi,g,hg=>by
  unfold gapsU at hg
  rcases List.mem_append.1 hg with h1 | h1
  ·exact gaps_fit h i (by omega) g h1
  ·obtain ⟨g1,g2,g3,g4,g5⟩:=h.at (i:=i) (by omega)
   have z1:=h.num (4*i+1)
   have z2:=h.num (4*i+2)
   have z3:=h.num (4*i+3)
   have hm:start q (i+1)≤start q n:=start_mono q hi
   have hs:start q (i+1)=start q i+plen (kd (q (4*i))):=rfl
   have hp:∀ r ∈ tab,(r.kind=10→plen r=3)∧(r.kind=11→11≤plen r):=by decide
   have hp':((kd (q (4*i))).kind=10→plen (kd (q (4*i)))=3)∧((kd (q (4*i))).kind=11→11≤plen (kd (q (4*i)))):=kd_all (fun r=>(r.kind=10→plen r=3)∧(r.kind=11→11≤plen r)) hp _ (by simp)
   unfold gapsI at h1
   by_cases e10:(kd (q (4*i))).kind=10
   ·rw [if_pos e10] at h1
    have:=g3 e10
    have:=hp'.1 e10
    simp only [List.mem_cons,List.not_mem_nil,or_false] at h1
    subst h1
    dsimp only
    omega
   ·rw [if_neg e10] at h1
    by_cases e11:(kd (q (4*i))).kind=11
    ·rw [if_pos e11] at h1
     have:=g4 e11
     have:=hp'.2 e11
     simp only [List.mem_cons,List.not_mem_nil,or_false] at h1
     rcases h1 with rfl | rfl
     ·dsimp only;omega
     ·dsimp only;omega
    ·rw [if_neg e11] at h1
     cases h1
theorem fillL_fill (q:Nat→Int) (n:Nat):∀ (gs:List (Int × Int)) (l:List Int),(∀ g ∈ gs,0≤g.2∧g.2<n)→gs.foldl (fillL (sts q n)) l=fill q l gs
 | [],_,_=>rfl
 | g::gs,l,h=>by
  have h1:=h g (by simp)
  show gs.foldl (fillL (sts q n)) (fillL (sts q n) l g)=gs.foldl (fill1 q) (fill1 q l g)
  have e:fillL (sts q n) l g=fill1 q l g:=by
   unfold fillL fill1
   rw [sts_get q n g.2.toNat (by omega)]
  rw [e]
  exact fillL_fill q n gs _ (fun x hx=>h x (List.mem_cons_of_mem _ hx))
theorem owns_any {w:World} {base:Nat} {e:TypeId} {s n:Nat} {v:Value} {xs:List Value} (h:w.ownsRow base e s v n xs):∃ ao cap,v=.slice ao n cap:=by
 rcases h.2 with ⟨h2,h3⟩ | ⟨g',cap',cur,hv,_⟩
 ·exact ⟨none,0,by rw [h2,h3]⟩
 ·exact ⟨_,cap',hv⟩
theorem owns_mono {w:World} {base base':Nat} {e:TypeId} {s n:Nat} {v:Value} {xs:List Value} (h:w.ownsRow base e s v n xs) (hb:base'≤base):w.ownsRow base' e s v n xs:=by
 obtain ⟨h1,h2⟩:=h
 rcases h2 with h2 | ⟨g',cap',cur,hv,hb',r⟩
 ·exact ⟨h1,Or.inl h2⟩
 ·exact ⟨h1,Or.inr ⟨g',cap',cur,hv,Nat.le_trans hb hb',r⟩⟩
theorem cm_new {w w1 w2 w3 w4:World} (h1:IMap w1 w.heap.size kmap) (g1:w.grownBy w1 none) (h2:IMap w2 w1.heap.size szmap) (g2:w1.grownBy w2 none) (h3:IMap w3 w2.heap.size opmap) (g3:w2.grownBy w3 none) (h4:IMap w4 w3.heap.size qumap) (g4:w3.grownBy w4 none) :
  CM (w4.alloc (.cells #[.slice none 0 0,.slice none 0 0,.slice none 0 0,.map (some w.heap.size),.map (some w1.heap.size),.map (some w2.heap.size),.map (some w3.heap.size)] 141)) (w4.alloc (.cells #[.slice none 0 0,.slice none 0 0,.slice none 0 0,.map (some w.heap.size),.map (some w1.heap.size),.map (some w2.heap.size),.map (some w3.heap.size)] 141)) w4.heap.size w.heap.size w1.heap.size w2.heap.size w3.heap.size (.slice none 0 0) (.slice none 0 0) (.slice none 0 0) [] [] []:=by
 have l1:=h1.lt
 have l2:=h2.lt
 have l3:=h3.lt
 have l4:=h4.lt
 have s2:=g2.size
 have s3:=g3.size
 have s4:=g4.size
 have ga:=World.grownBy_alloc w4 (.cells #[.slice none 0 0,.slice none 0 0,.slice none 0 0,.map (some w.heap.size),.map (some w1.heap.size),.map (some w2.heap.size),.map (some w3.heap.size)] 141) none
 have hz:(w4.alloc (.cells #[.slice none 0 0,.slice none 0 0,.slice none 0 0,.map (some w.heap.size),.map (some w1.heap.size),.map (some w2.heap.size),.map (some w3.heap.size)] 141)).heap.size=w4.heap.size+1:=by simp
 refine ⟨grown_refl _ _,by omega,(blk_new w4 _ _).congr fun j hj=>?_,World.ownsRow_nil _ _ _ _,World.ownsRow_nil _ _ _ _,World.ownsRow_nil _ _ _ _,Or.inl rfl,Or.inl rfl,Or.inl rfl,⟨by omega,by omega⟩,⟨by omega,by omega⟩,⟨by omega,by omega⟩,⟨by omega,by omega⟩,
  (((h1.keep g2 (by simp)).keep g3 (by simp)).keep g4 (by simp)).keep ga (by simp),((h2.keep g3 (by simp)).keep g4 (by simp)).keep ga (by simp),(h3.keep g4 (by simp)).keep ga (by simp),h4.keep ga (by simp)⟩
 match j,hj with
 | 0,_=>rfl
 | 1,_=>rfl
 | 2,_=>rfl
 | 3,_=>rfl
 | 4,_=>rfl
 | 5,_=>rfl
 | 6,_=>rfl
set_option maxHeartbeats 2000000 in
theorem cfilter (lb loff n lc:Nat) (q:Nat→Int) (w:World) (hn:n≤256) (hR:Row w .i64 lb loff (4*n) q) (hgood:Good q n) :
  Calls Tryz.prog 45 #[.slice (some ⟨lb,loff,none⟩) n lc] w fun e w'=>∃ g cap,e=.returned (.slice (some ⟨g,0,none⟩) (start q n) cap)∧w'.ownsRow w.heap.size 5 1 (.slice (some ⟨g,0,none⟩) (start q n) cap) (start q n) (vals (full q n))∧w.grownBy w' none:=by
 obtain ⟨i0,hi,hz0,hz1,hz2⟩:=info_parts Tryz.infoIntC
 go_enter Tryz.func45,Tryz.ntmps45
 go_wp2_with (first | (go_at_call 70;refine (kinds_any _).mono ?_;rintro e w1 ⟨rfl,hb1,hg1⟩) | (go_at_call 71;refine (sizes_any _).mono ?_;rintro e w2 ⟨rfl,hb2,hg2⟩) | (go_at_call 72;refine (operators_any _).mono ?_;rintro e w3 ⟨rfl,hb3,hg3⟩) | (go_at_call 73;refine (questions_any _).mono ?_;rintro e w4 ⟨rfl,hb4,hg4⟩))
 have C0:=cm_new hb1 hg1 hb2 hg2 hb3 hg3 hb4 hg4
 have G0:=grown_alloc (grown_trans (grown_trans (grown_trans hg1 hg2) hg3) hg4) (.cells #[.slice none 0 0,.slice none 0 0,.slice none 0 0,.map (some w.heap.size),.map (some w1.heap.size),.map (some w2.heap.size),.map (some w3.heap.size)] 141)
 have hMw:w.heap.size≤w4.heap.size:=(grown_trans (grown_trans (grown_trans hg1 hg2) hg3) hg4).size
 clear hb1 hg1 hb2 hg2 hb3 hg3 hb4 hg4
 generalize (w4.alloc (.cells #[.slice none 0 0,.slice none 0 0,.slice none 0 0,.map (some w.heap.size),.map (some w1.heap.size),.map (some w2.heap.size),.map (some w3.heap.size)] 141))=W5 at *
 have hR5:=hR.keep G0 (by simp)
 generalize w4.heap.size=M at *
 generalize w1.heap.size=SB at *
 generalize w2.heap.size=OB at *
 generalize w3.heap.size=UB at *
 go_loopw [13] (fun i wr=>∃ (k:Nat) (cv sv gv:Value),k≤n∧i=.int .i64 k∧CM W5 wr M w.heap.size SB OB UB cv sv gv (code0 q k) (sts q k) (gapsU q k)) (fun i _=>n-(intOf i).toNat)
 case atStart=>exact ⟨0,_,_,_,Nat.zero_le _,rfl,C0⟩
 case round =>
  clear C0
  obtain ⟨k,cv,sv,gv,hk,rfl,hM⟩:=hrel
  by_cases hlt:k<n
  ·obtain ⟨g1,g2,g3,g4,g5⟩:=hgood.at hlt
   have OC:=hM.oc
   rw [code0_len] at OC
   obtain ⟨ao,cc,rfl⟩:=owns_any OC
   have OS:=hM.os
   rw [sts_len] at OS
   obtain ⟨so,sc,rfl⟩:=owns_any OS
   have lM:=hM.m.lt
   have hne:=hM.hM
   have lb0:lb<w.heap.size:=World.block_lt_of_cell? w _ (hR.insn hlt).1
   obtain ⟨l0,l1,l2,l3⟩:=(hR5.keep hM.gr (by simp;omega)).insn hlt
   obtain ⟨d0,d1,d2,d3,d4,d5,d6⟩:=hM.cells
   obtain ⟨f0,f1,f2⟩:=hM.free
   have hsz:=hM.gr.size
   have HM:Hid (CM W5 wr M w.heap.size SB OB UB (.slice ao (start q k) cc) (.slice so k sc) gv (code0 q k) (sts q k) (gapsU q k)):=hM
   have hsb:=start_bd q k
   have n1:=hgood.num (4*k+1)
   have n2:=hgood.num (4*k+2)
   have uk:U32 (q (4*k+3)):=num_u32 hgood.num _
   have HAd:Hid (∀ (cv sv gv:Value) w',CM W5 w' M w.heap.size SB OB UB cv sv gv (code0 q k) (sts q (k+1)) (gapsU q k)→Calls Tryz.prog 76 #[.pointer (some ⟨M,0,none⟩),.agg #[.int .i64 (q (4*k)),.int .i64 (q (4*k+1)),.int .i64 (q (4*k+2)),.int .i64 (q (4*k+3))]] w' fun e w''=>e=.returned (.tuple #[])∧∃ cv' gv',CM W5 w'' M w.heap.size SB OB UB cv' sv gv' (code0 q (k+1)) (sts q (k+1)) (gapsU q (k+1))):=fun cv sv gv w' hc=>by
    have hgu:=gapsU_len q k
    refine (ca_any W5 w' M w.heap.size SB OB UB cv sv gv (code0 q k) (sts q (k+1)) (gapsU q k) _ _ _ hc (by rw [code0_len];omega) uk (by rw [sts_len];omega) (by rw [sts_len];omega) (by omega) n1 n2 _ g1 g2).mono ?_
    rintro e w2 ⟨h1,cv2,gv2,h2⟩
    refine ⟨h1,cv2,gv2,?_⟩
    rw [code0_len,sts_len,Int.natCast_add,show ((1:Nat):Int)=1 from rfl,gp_gapsI] at h2
    exact h2
   have HIN:Hid ((wr.alloc (.cells #[.int .i64 (q (4*k)),.int .i64 (q (4*k+1)),.int .i64 (q (4*k+2)),.int .i64 (q (4*k+3))] 63)).heap.size=wr.heap.size+1):=(by simp:(wr.alloc (.cells #[.int .i64 (q (4*k)),.int .i64 (q (4*k+1)),.int .i64 (q (4*k+2)),.int .i64 (q (4*k+3))] 63)).heap.size=wr.heap.size+1)
   have own:=OS.lt
   clear OC g1 g2 g3 g4 g5
   have HST:Hid (sts q (k+1)=sts q k ++ [((start q k:Nat):Int)]):=(rfl:sts q (k+1)=sts q k ++ [((start q k:Nat):Int)])
   have hbx:some wr.heap.size≠(Value.slice so k sc).ownBlock:=fun e=>Nat.lt_irrefl _ (own _ e.symm).2
   generalize start q k=SK at *
   go_wp2_with (first | (at_builtin;refine wpList_append_own_at _ rfl _ _ 66 rfl W5.heap.size 3 i0 (.int .i64 0) 1 8 Tryz.underlying66 hi hz0 hz1 hz2 rfl (by decide) (.slice so k sc) k (nums (sts q k)) rfl ((OS.alloc _).alloc _) ⟨wr.heap.size+1,0,none⟩ 1 1 [.int .i64 (SK:Int)] rfl rfl (World.news_of_block (heap_top _ _ _ HIN.out.symm)) (by simp [Value.oneCell']) (by unfold maxLen;omega) (by omega) (by simp;omega) ?_;intro sv' w6 ho6 hg6 _ hat6;obtain ⟨sg,sp,rfl,_,_⟩:=owns_form ho6 (by omega);have H5:=(HM.out.allo (.cells #[.int .i64 (q (4*k)),.int .i64 (q (4*k+1)),.int .i64 (q (4*k+2)),.int .i64 (q (4*k+3))] 63)).allo (.cells #[.int .i64 (SK:Int)] 3);have H6:=H5.setStarts (by rw [sts_len]) ho6 hg6 hat6;rw [← HST.out] at H6;have m6:=H5.m.keep hg6 (own_ne H5.os H5.hM);have y1:=m6.cell (j:=1) (by omega);have z1:=m6.frozen 1;have b0:=hg6.cell ((World.grownBy_alloc (wr.alloc (.cells #[.int .i64 (q (4*k)),.int .i64 (q (4*k+1)),.int .i64 (q (4*k+2)),.int .i64 (q (4*k+3))] 63)) (.cells #[.int .i64 (SK:Int)] 3) none).cell (a:=⟨wr.heap.size,0,none⟩) (v:=.int .i64 (q (4*k))) (by rw [World.cell?_alloc_new];rfl) (by simp)) hbx;have b1:=hg6.cell ((World.grownBy_alloc (wr.alloc (.cells #[.int .i64 (q (4*k)),.int .i64 (q (4*k+1)),.int .i64 (q (4*k+2)),.int .i64 (q (4*k+3))] 63)) (.cells #[.int .i64 (SK:Int)] 3) none).cell (a:=⟨wr.heap.size,1,none⟩) (v:=.int .i64 (q (4*k+1))) (by rw [World.cell?_alloc_new];rfl) (by simp)) hbx;have b2:=hg6.cell ((World.grownBy_alloc (wr.alloc (.cells #[.int .i64 (q (4*k)),.int .i64 (q (4*k+1)),.int .i64 (q (4*k+2)),.int .i64 (q (4*k+3))] 63)) (.cells #[.int .i64 (SK:Int)] 3) none).cell (a:=⟨wr.heap.size,2,none⟩) (v:=.int .i64 (q (4*k+2))) (by rw [World.cell?_alloc_new];rfl) (by simp)) hbx;have b3:=hg6.cell ((World.grownBy_alloc (wr.alloc (.cells #[.int .i64 (q (4*k)),.int .i64 (q (4*k+1)),.int .i64 (q (4*k+2)),.int .i64 (q (4*k+3))] 63)) (.cells #[.int .i64 (SK:Int)] 3) none).cell (a:=⟨wr.heap.size,3,none⟩) (v:=.int .i64 (q (4*k+3))) (by rw [World.cell?_alloc_new];rfl) (by simp)) hbx) | (go_at_call 76;refine (HAd.out _ _ _ _ H6).mono ?_;rintro e w7 ⟨rfl,cv7,gv7,H7⟩))
   go_roundw
   case rel=>exact ⟨k+1,cv7,_,gv7,by omega,by go_num,H7⟩
   case measure=>simp [intOf];omega
  ·have hke:k=n:=by omega
   subst hke
   have h1:=hgood.pos
   have hsp:=start_pos q h1
   have hsb:=start_bd q k
   have OC:=hM.oc
   rw [code0_len] at OC
   obtain ⟨g,cap,rfl,hgg,hcc⟩:=owns_form OC hsp
   have HF:Hid (Calls Tryz.prog 77 #[.pointer (some ⟨M,0,none⟩)] wr fun e w'=>e=.returned (.tuple #[])∧CM W5 w' M w.heap.size SB OB UB (.slice (some ⟨g,0,none⟩) (start q k) cap) sv gv (full q k) (sts q k) (gapsU q k)):=by
    have hgu:=gapsU_len q k
    have hfit:=gaps_fit hgood k (Nat.le_refl _)
    refine (cfill W5 wr M w.heap.size SB OB UB _ sv gv (code0 q k) (sts q k) (gapsU q k) hM (by rw [code0_len];omega) (by rw [code0_len];omega) (by rw [sts_len];omega) (by rw [sts_len];omega) (by omega) (fun i hi=>?_) (fun j=>?_)).mono ?_
    ·have:=hfit _ (List.getElem_mem hi)
     rw [code0_len,sts_len]
     exact this
    ·by_cases hj:j<k
     ·rw [sts_get q k j hj]
      have:start q j≤start q k:=start_mono q (by omega)
      omega
     ·rw [sts_out q k j hj];omega
    ·rintro e w' ⟨h2,h3⟩
     refine ⟨h2,?_⟩
     rw [fillL_fill q k _ _ (fun g hg=>⟨(hfit g hg).2.2.1,(hfit g hg).2.2.2⟩),fill_full hgood.num k] at h3
     exact h3
   have HL:Hid ((full q k).length=start q k):=full_len q k
   have lM:=hM.m.lt
   clear hM OC
   go_wp2_with (go_at_call 77;refine HF.out.mono ?_;rintro e w7 ⟨rfl,H7⟩;obtain ⟨d0,d1,d2,d3,d4,d5,d6⟩:=H7.cells)
   go_ret
   have OC7:=H7.oc
   rw [HL.out] at OC7
   exact ⟨g,cap,rfl,owns_mono OC7 G0.size,grown_new none G0 H7.gr hMw⟩
end Go.Proofs.YthbcfepbkkbjiaaGreatDoor
namespace Go.Proofs.YthbcfepbkkbjiaaGreatDoor
open Go.RowKit
theorem code_exec {q:Nat→Int} {n:Nat} {p:Nat→Int} {m:Nat} (h:Good q n) (hn:n≤256) (hp:Oct p) (hm:m≤2000):∃ c,c≤8*n∧execR (codeF q n) (start q n) p m=(runF q p m 256 F0,c,0):=by
 have hC:Cor q F0 S0:=⟨rfl,rfl,fun _ _=>rfl,rfl,rfl⟩
 obtain ⟨c,c1,c2,hR⟩:=code_runs (g:=codeF q n) (N:=start q n) h hn hp hm (codeF_of q n) rfl n F0 S0 (finv0 h.pos) hC (by show n≤0+n;omega) (65536-8*n) 0
 obtain ⟨c',c1',c2',hR'⟩:=code_runs (g:=codeF q n) (N:=start q n) h hn hp hm (codeF_of q n) rfl 256 F0 S0 (finv0 h.pos) hC (by show n≤0+256;omega) (65536-8*256) 0
 rw [show 65536-8*n+8*n=65536 by omega] at hR
 rw [show 65536-8*256+8*256=65536 by omega] at hR'
 rw [hR] at hR'
 refine ⟨c,c2,?_⟩
 unfold execR
 rw [hR,Nat.zero_add]
 have:=congrArg (fun x=>x.1) hR'
 dsimp only at this
 rw [this]
end Go.Proofs.YthbcfepbkkbjiaaGreatDoor
