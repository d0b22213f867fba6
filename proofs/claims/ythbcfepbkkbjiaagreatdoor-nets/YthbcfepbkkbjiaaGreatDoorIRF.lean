import Derived.Test.YthbcfepbkkbjiaaGreatDoorIRB
set_option linter.unusedSimpArgs false
set_option linter.unusedVariables false
set_option maxRecDepth 100000
namespace Go.Proofs.YthbcfepbkkbjiaaGreatDoor
open Go.RowKit
set_option maxHeartbeats 1000000 in
theorem rk_4n (w0 w:World) (M KB SB OB UB:Nat) (po:Option Addr) (m pcap:Nat) (p:Nat→Int) (pc:Nat) (a x:Int) (cs:Nat→Int) (vd jt jf k:Int) (h:QM w0 w M KB SB OB UB (.slice po m pcap) ⟨pc,a,x,cs⟩ false vd) (hm:m≤2000) (hpc:pc≤1000) (ua:U32 a) (ux:U32 x) (uk:U32 k) :
  Calls Tryz.prog 108 #[.pointer (some ⟨M,0,none⟩),.agg #[.int .i64 4,.int .i64 jt,.int .i64 jf,.int .i64 k]] w fun e w'=>e=.returned (.tuple #[])∧QM w0 w' M KB SB OB UB (.slice po m pcap) ⟨pc,opr 0 a k,x,cs⟩ false vd:=by
 obtain ⟨c0,c1,c2,c3,c4,c5,c6,c7,c8,c9⟩:=h.cells
 obtain ⟨z1,z2,z3,z4,z5⟩:=h.free
 dsimp only at c1 c2 c3
 have lM:=h.m.lt
 have HH:Hid (QM w0 w M KB SB OB UB (.slice po m pcap) ⟨pc,a,x,cs⟩ false vd):=h
 obtain ⟨a0,a1⟩:=ua
 obtain ⟨x0,x1⟩:=ux
 obtain ⟨k0,k1⟩:=uk
 have hlk:(Instr.lookup 127 (.map (some OB)) (.int .i64 4) false).run Tryz.prog (w.alloc (.cells #[.int .i64 4,.int .i64 jt,.int .i64 jf,.int .i64 k] 63)).drew=.ok (.int .i64 0) (w.alloc (.cells #[.int .i64 4,.int .i64 jt,.int .i64 jf,.int .i64 k] 63)).drew:=look_op ((h.allo _).drew).io rfl
 have HA:Hid (∀ w',Calls Tryz.prog 130 #[.int .i64 0,.int .u32 a,.int .u32 k] w' fun e w''=>e=.returned (.tuple #[.int .u32 (opr 0 a k),.bool true])∧w''=w'):=fun w'=>by have:=Reckon_any 0 a k w' (by decide) ⟨a0,a1⟩ ⟨k0,k1⟩;exact this
 generalize opr 0 a k=V at *
 clear h
 go_enter Tryz.func108,Tryz.ntmps108
 go_wp2
 refine wp_region_tl 16 (by kernel_rfl) (by kernel_rfl) ?_
 simp only [List.take_succ_cons,List.take_zero,List.drop_succ_cons,List.drop_zero]
 repeat still_step
 still_call (HA.out _)
 repeat still_step
 refine wpStill_nil ?_
 go_wp2_with (go_at_call 141;refine (become_ok2 w0 _ M KB SB OB UB (.slice po m pcap) ⟨pc,a,x,cs⟩ false vd V (by repeat (first | exact HH.out | refine QM.drew ?_ | refine QM.drewN ?_ _ | refine QM.allo ?_ _))).mono ?_;rintro e w4 ⟨rfl,h4,k4⟩)
 go_end0
 exact ⟨rfl,h4⟩
set_option maxHeartbeats 1000000 in
theorem rk_20n (w0 w:World) (M KB SB OB UB:Nat) (po:Option Addr) (m pcap:Nat) (p:Nat→Int) (pc:Nat) (a x:Int) (cs:Nat→Int) (vd jt jf k:Int) (h:QM w0 w M KB SB OB UB (.slice po m pcap) ⟨pc,a,x,cs⟩ false vd) (hm:m≤2000) (hpc:pc≤1000) (ua:U32 a) (ux:U32 x) (uk:U32 k) :
  Calls Tryz.prog 108 #[.pointer (some ⟨M,0,none⟩),.agg #[.int .i64 20,.int .i64 jt,.int .i64 jf,.int .i64 k]] w fun e w'=>e=.returned (.tuple #[])∧QM w0 w' M KB SB OB UB (.slice po m pcap) ⟨pc,opr 1 a k,x,cs⟩ false vd:=by
 obtain ⟨c0,c1,c2,c3,c4,c5,c6,c7,c8,c9⟩:=h.cells
 obtain ⟨z1,z2,z3,z4,z5⟩:=h.free
 dsimp only at c1 c2 c3
 have lM:=h.m.lt
 have HH:Hid (QM w0 w M KB SB OB UB (.slice po m pcap) ⟨pc,a,x,cs⟩ false vd):=h
 obtain ⟨a0,a1⟩:=ua
 obtain ⟨x0,x1⟩:=ux
 obtain ⟨k0,k1⟩:=uk
 have hlk:(Instr.lookup 127 (.map (some OB)) (.int .i64 20) false).run Tryz.prog (w.alloc (.cells #[.int .i64 20,.int .i64 jt,.int .i64 jf,.int .i64 k] 63)).drew=.ok (.int .i64 1) (w.alloc (.cells #[.int .i64 20,.int .i64 jt,.int .i64 jf,.int .i64 k] 63)).drew:=look_op ((h.allo _).drew).io rfl
 have HA:Hid (∀ w',Calls Tryz.prog 130 #[.int .i64 1,.int .u32 a,.int .u32 k] w' fun e w''=>e=.returned (.tuple #[.int .u32 (opr 1 a k),.bool true])∧w''=w'):=fun w'=>by have:=Reckon_any 1 a k w' (by decide) ⟨a0,a1⟩ ⟨k0,k1⟩;exact this
 generalize opr 1 a k=V at *
 clear h
 go_enter Tryz.func108,Tryz.ntmps108
 go_wp2
 refine wp_region_tl 16 (by kernel_rfl) (by kernel_rfl) ?_
 simp only [List.take_succ_cons,List.take_zero,List.drop_succ_cons,List.drop_zero]
 repeat still_step
 still_call (HA.out _)
 repeat still_step
 refine wpStill_nil ?_
 go_wp2_with (go_at_call 141;refine (become_ok2 w0 _ M KB SB OB UB (.slice po m pcap) ⟨pc,a,x,cs⟩ false vd V (by repeat (first | exact HH.out | refine QM.drew ?_ | refine QM.drewN ?_ _ | refine QM.allo ?_ _))).mono ?_;rintro e w4 ⟨rfl,h4,k4⟩)
 go_end0
 exact ⟨rfl,h4⟩
set_option maxHeartbeats 1000000 in
theorem rk_36n (w0 w:World) (M KB SB OB UB:Nat) (po:Option Addr) (m pcap:Nat) (p:Nat→Int) (pc:Nat) (a x:Int) (cs:Nat→Int) (vd jt jf k:Int) (h:QM w0 w M KB SB OB UB (.slice po m pcap) ⟨pc,a,x,cs⟩ false vd) (hm:m≤2000) (hpc:pc≤1000) (ua:U32 a) (ux:U32 x) (uk:U32 k) :
  Calls Tryz.prog 108 #[.pointer (some ⟨M,0,none⟩),.agg #[.int .i64 36,.int .i64 jt,.int .i64 jf,.int .i64 k]] w fun e w'=>e=.returned (.tuple #[])∧QM w0 w' M KB SB OB UB (.slice po m pcap) ⟨pc,opr 2 a k,x,cs⟩ false vd:=by
 obtain ⟨c0,c1,c2,c3,c4,c5,c6,c7,c8,c9⟩:=h.cells
 obtain ⟨z1,z2,z3,z4,z5⟩:=h.free
 dsimp only at c1 c2 c3
 have lM:=h.m.lt
 have HH:Hid (QM w0 w M KB SB OB UB (.slice po m pcap) ⟨pc,a,x,cs⟩ false vd):=h
 obtain ⟨a0,a1⟩:=ua
 obtain ⟨x0,x1⟩:=ux
 obtain ⟨k0,k1⟩:=uk
 have hlk:(Instr.lookup 127 (.map (some OB)) (.int .i64 36) false).run Tryz.prog (w.alloc (.cells #[.int .i64 36,.int .i64 jt,.int .i64 jf,.int .i64 k] 63)).drew=.ok (.int .i64 2) (w.alloc (.cells #[.int .i64 36,.int .i64 jt,.int .i64 jf,.int .i64 k] 63)).drew:=look_op ((h.allo _).drew).io rfl
 have HA:Hid (∀ w',Calls Tryz.prog 130 #[.int .i64 2,.int .u32 a,.int .u32 k] w' fun e w''=>e=.returned (.tuple #[.int .u32 (opr 2 a k),.bool true])∧w''=w'):=fun w'=>by have:=Reckon_any 2 a k w' (by decide) ⟨a0,a1⟩ ⟨k0,k1⟩;exact this
 generalize opr 2 a k=V at *
 clear h
 go_enter Tryz.func108,Tryz.ntmps108
 go_wp2
 refine wp_region_tl 16 (by kernel_rfl) (by kernel_rfl) ?_
 simp only [List.take_succ_cons,List.take_zero,List.drop_succ_cons,List.drop_zero]
 repeat still_step
 still_call (HA.out _)
 repeat still_step
 refine wpStill_nil ?_
 go_wp2_with (go_at_call 141;refine (become_ok2 w0 _ M KB SB OB UB (.slice po m pcap) ⟨pc,a,x,cs⟩ false vd V (by repeat (first | exact HH.out | refine QM.drew ?_ | refine QM.drewN ?_ _ | refine QM.allo ?_ _))).mono ?_;rintro e w4 ⟨rfl,h4,k4⟩)
 go_end0
 exact ⟨rfl,h4⟩
set_option maxHeartbeats 1000000 in
theorem rk_52n (w0 w:World) (M KB SB OB UB:Nat) (po:Option Addr) (m pcap:Nat) (p:Nat→Int) (pc:Nat) (a x:Int) (cs:Nat→Int) (vd jt jf k:Int) (h:QM w0 w M KB SB OB UB (.slice po m pcap) ⟨pc,a,x,cs⟩ false vd) (hm:m≤2000) (hpc:pc≤1000) (ua:U32 a) (ux:U32 x) (uk:U32 k) (hq:div0 3 k=false) :
  Calls Tryz.prog 108 #[.pointer (some ⟨M,0,none⟩),.agg #[.int .i64 52,.int .i64 jt,.int .i64 jf,.int .i64 k]] w fun e w'=>e=.returned (.tuple #[])∧QM w0 w' M KB SB OB UB (.slice po m pcap) ⟨pc,opr 3 a k,x,cs⟩ false vd:=by
 obtain ⟨c0,c1,c2,c3,c4,c5,c6,c7,c8,c9⟩:=h.cells
 obtain ⟨z1,z2,z3,z4,z5⟩:=h.free
 dsimp only at c1 c2 c3
 have lM:=h.m.lt
 have HH:Hid (QM w0 w M KB SB OB UB (.slice po m pcap) ⟨pc,a,x,cs⟩ false vd):=h
 obtain ⟨a0,a1⟩:=ua
 obtain ⟨x0,x1⟩:=ux
 obtain ⟨k0,k1⟩:=uk
 have hlk:(Instr.lookup 127 (.map (some OB)) (.int .i64 52) false).run Tryz.prog (w.alloc (.cells #[.int .i64 52,.int .i64 jt,.int .i64 jf,.int .i64 k] 63)).drew=.ok (.int .i64 3) (w.alloc (.cells #[.int .i64 52,.int .i64 jt,.int .i64 jf,.int .i64 k] 63)).drew:=look_op ((h.allo _).drew).io rfl
 have HA:Hid (∀ w',Calls Tryz.prog 130 #[.int .i64 3,.int .u32 a,.int .u32 k] w' fun e w''=>e=.returned (.tuple #[.int .u32 (opr 3 a k),.bool true])∧w''=w'):=fun w'=>by have:=Reckon_any 3 a k w' (by decide) ⟨a0,a1⟩ ⟨k0,k1⟩;rwa [hq] at this
 generalize opr 3 a k=V at *
 clear hq
 clear h
 go_enter Tryz.func108,Tryz.ntmps108
 go_wp2
 refine wp_region_tl 16 (by kernel_rfl) (by kernel_rfl) ?_
 simp only [List.take_succ_cons,List.take_zero,List.drop_succ_cons,List.drop_zero]
 repeat still_step
 still_call (HA.out _)
 repeat still_step
 refine wpStill_nil ?_
 go_wp2_with (go_at_call 141;refine (become_ok2 w0 _ M KB SB OB UB (.slice po m pcap) ⟨pc,a,x,cs⟩ false vd V (by repeat (first | exact HH.out | refine QM.drew ?_ | refine QM.drewN ?_ _ | refine QM.allo ?_ _))).mono ?_;rintro e w4 ⟨rfl,h4,k4⟩)
 go_end0
 exact ⟨rfl,h4⟩
set_option maxHeartbeats 1000000 in
theorem rk_52z (w0 w:World) (M KB SB OB UB:Nat) (po:Option Addr) (m pcap:Nat) (p:Nat→Int) (pc:Nat) (a x:Int) (cs:Nat→Int) (vd jt jf k:Int) (h:QM w0 w M KB SB OB UB (.slice po m pcap) ⟨pc,a,x,cs⟩ false vd) (hm:m≤2000) (hpc:pc≤1000) (ua:U32 a) (ux:U32 x) (uk:U32 k) (hq:div0 3 k=true) :
  Calls Tryz.prog 108 #[.pointer (some ⟨M,0,none⟩),.agg #[.int .i64 52,.int .i64 jt,.int .i64 jf,.int .i64 k]] w fun e w'=>e=.returned (.tuple #[])∧QM w0 w' M KB SB OB UB (.slice po m pcap) ⟨pc,opr 3 a k,x,cs⟩ true 0:=by
 obtain ⟨c0,c1,c2,c3,c4,c5,c6,c7,c8,c9⟩:=h.cells
 obtain ⟨z1,z2,z3,z4,z5⟩:=h.free
 dsimp only at c1 c2 c3
 have lM:=h.m.lt
 have HH:Hid (QM w0 w M KB SB OB UB (.slice po m pcap) ⟨pc,a,x,cs⟩ false vd):=h
 obtain ⟨a0,a1⟩:=ua
 obtain ⟨x0,x1⟩:=ux
 obtain ⟨k0,k1⟩:=uk
 have hlk:(Instr.lookup 127 (.map (some OB)) (.int .i64 52) false).run Tryz.prog (w.alloc (.cells #[.int .i64 52,.int .i64 jt,.int .i64 jf,.int .i64 k] 63)).drew=.ok (.int .i64 3) (w.alloc (.cells #[.int .i64 52,.int .i64 jt,.int .i64 jf,.int .i64 k] 63)).drew:=look_op ((h.allo _).drew).io rfl
 have HA:Hid (∀ w',Calls Tryz.prog 130 #[.int .i64 3,.int .u32 a,.int .u32 k] w' fun e w''=>e=.returned (.tuple #[.int .u32 (opr 3 a k),.bool false])∧w''=w'):=fun w'=>by have:=Reckon_any 3 a k w' (by decide) ⟨a0,a1⟩ ⟨k0,k1⟩;rwa [hq] at this
 generalize opr 3 a k=V at *
 clear hq
 clear h
 go_enter Tryz.func108,Tryz.ntmps108
 go_wp2
 refine wp_region_tl 16 (by kernel_rfl) (by kernel_rfl) ?_
 simp only [List.take_succ_cons,List.take_zero,List.drop_succ_cons,List.drop_zero]
 repeat still_step
 still_call (HA.out _)
 repeat still_step
 refine wpStill_nil ?_
 go_wp2_with (go_at_call 141;refine (become_no2 w0 _ M KB SB OB UB (.slice po m pcap) ⟨pc,a,x,cs⟩ false vd V (by repeat (first | exact HH.out | refine QM.drew ?_ | refine QM.drewN ?_ _ | refine QM.allo ?_ _))).mono ?_;rintro e w4 ⟨rfl,h4,k4⟩)
 go_end0
 exact ⟨rfl,h4⟩
set_option maxHeartbeats 1000000 in
theorem rk_148n (w0 w:World) (M KB SB OB UB:Nat) (po:Option Addr) (m pcap:Nat) (p:Nat→Int) (pc:Nat) (a x:Int) (cs:Nat→Int) (vd jt jf k:Int) (h:QM w0 w M KB SB OB UB (.slice po m pcap) ⟨pc,a,x,cs⟩ false vd) (hm:m≤2000) (hpc:pc≤1000) (ua:U32 a) (ux:U32 x) (uk:U32 k) (hq:div0 4 k=false) :
  Calls Tryz.prog 108 #[.pointer (some ⟨M,0,none⟩),.agg #[.int .i64 148,.int .i64 jt,.int .i64 jf,.int .i64 k]] w fun e w'=>e=.returned (.tuple #[])∧QM w0 w' M KB SB OB UB (.slice po m pcap) ⟨pc,opr 4 a k,x,cs⟩ false vd:=by
 obtain ⟨c0,c1,c2,c3,c4,c5,c6,c7,c8,c9⟩:=h.cells
 obtain ⟨z1,z2,z3,z4,z5⟩:=h.free
 dsimp only at c1 c2 c3
 have lM:=h.m.lt
 have HH:Hid (QM w0 w M KB SB OB UB (.slice po m pcap) ⟨pc,a,x,cs⟩ false vd):=h
 obtain ⟨a0,a1⟩:=ua
 obtain ⟨x0,x1⟩:=ux
 obtain ⟨k0,k1⟩:=uk
 have hlk:(Instr.lookup 127 (.map (some OB)) (.int .i64 148) false).run Tryz.prog (w.alloc (.cells #[.int .i64 148,.int .i64 jt,.int .i64 jf,.int .i64 k] 63)).drew=.ok (.int .i64 4) (w.alloc (.cells #[.int .i64 148,.int .i64 jt,.int .i64 jf,.int .i64 k] 63)).drew:=look_op ((h.allo _).drew).io rfl
 have HA:Hid (∀ w',Calls Tryz.prog 130 #[.int .i64 4,.int .u32 a,.int .u32 k] w' fun e w''=>e=.returned (.tuple #[.int .u32 (opr 4 a k),.bool true])∧w''=w'):=fun w'=>by have:=Reckon_any 4 a k w' (by decide) ⟨a0,a1⟩ ⟨k0,k1⟩;rwa [hq] at this
 generalize opr 4 a k=V at *
 clear hq
 clear h
 go_enter Tryz.func108,Tryz.ntmps108
 go_wp2
 refine wp_region_tl 16 (by kernel_rfl) (by kernel_rfl) ?_
 simp only [List.take_succ_cons,List.take_zero,List.drop_succ_cons,List.drop_zero]
 repeat still_step
 still_call (HA.out _)
 repeat still_step
 refine wpStill_nil ?_
 go_wp2_with (go_at_call 141;refine (become_ok2 w0 _ M KB SB OB UB (.slice po m pcap) ⟨pc,a,x,cs⟩ false vd V (by repeat (first | exact HH.out | refine QM.drew ?_ | refine QM.drewN ?_ _ | refine QM.allo ?_ _))).mono ?_;rintro e w4 ⟨rfl,h4,k4⟩)
 go_end0
 exact ⟨rfl,h4⟩
set_option maxHeartbeats 1000000 in
theorem rk_148z (w0 w:World) (M KB SB OB UB:Nat) (po:Option Addr) (m pcap:Nat) (p:Nat→Int) (pc:Nat) (a x:Int) (cs:Nat→Int) (vd jt jf k:Int) (h:QM w0 w M KB SB OB UB (.slice po m pcap) ⟨pc,a,x,cs⟩ false vd) (hm:m≤2000) (hpc:pc≤1000) (ua:U32 a) (ux:U32 x) (uk:U32 k) (hq:div0 4 k=true) :
  Calls Tryz.prog 108 #[.pointer (some ⟨M,0,none⟩),.agg #[.int .i64 148,.int .i64 jt,.int .i64 jf,.int .i64 k]] w fun e w'=>e=.returned (.tuple #[])∧QM w0 w' M KB SB OB UB (.slice po m pcap) ⟨pc,opr 4 a k,x,cs⟩ true 0:=by
 obtain ⟨c0,c1,c2,c3,c4,c5,c6,c7,c8,c9⟩:=h.cells
 obtain ⟨z1,z2,z3,z4,z5⟩:=h.free
 dsimp only at c1 c2 c3
 have lM:=h.m.lt
 have HH:Hid (QM w0 w M KB SB OB UB (.slice po m pcap) ⟨pc,a,x,cs⟩ false vd):=h
 obtain ⟨a0,a1⟩:=ua
 obtain ⟨x0,x1⟩:=ux
 obtain ⟨k0,k1⟩:=uk
 have hlk:(Instr.lookup 127 (.map (some OB)) (.int .i64 148) false).run Tryz.prog (w.alloc (.cells #[.int .i64 148,.int .i64 jt,.int .i64 jf,.int .i64 k] 63)).drew=.ok (.int .i64 4) (w.alloc (.cells #[.int .i64 148,.int .i64 jt,.int .i64 jf,.int .i64 k] 63)).drew:=look_op ((h.allo _).drew).io rfl
 have HA:Hid (∀ w',Calls Tryz.prog 130 #[.int .i64 4,.int .u32 a,.int .u32 k] w' fun e w''=>e=.returned (.tuple #[.int .u32 (opr 4 a k),.bool false])∧w''=w'):=fun w'=>by have:=Reckon_any 4 a k w' (by decide) ⟨a0,a1⟩ ⟨k0,k1⟩;rwa [hq] at this
 generalize opr 4 a k=V at *
 clear hq
 clear h
 go_enter Tryz.func108,Tryz.ntmps108
 go_wp2
 refine wp_region_tl 16 (by kernel_rfl) (by kernel_rfl) ?_
 simp only [List.take_succ_cons,List.take_zero,List.drop_succ_cons,List.drop_zero]
 repeat still_step
 still_call (HA.out _)
 repeat still_step
 refine wpStill_nil ?_
 go_wp2_with (go_at_call 141;refine (become_no2 w0 _ M KB SB OB UB (.slice po m pcap) ⟨pc,a,x,cs⟩ false vd V (by repeat (first | exact HH.out | refine QM.drew ?_ | refine QM.drewN ?_ _ | refine QM.allo ?_ _))).mono ?_;rintro e w4 ⟨rfl,h4,k4⟩)
 go_end0
 exact ⟨rfl,h4⟩
end Go.Proofs.YthbcfepbkkbjiaaGreatDoor
