import Derived.Test.YthbcfepbkkbjiaaGreatDoorIRB
set_option linter.unusedSimpArgs false
set_option linter.unusedVariables false
set_option maxRecDepth 100000
namespace Go.Proofs.YthbcfepbkkbjiaaGreatDoor
open Go.RowKit
set_option maxHeartbeats 1000000 in
theorem rk_68n (w0 w:World) (M KB SB OB UB:Nat) (po:Option Addr) (m pcap:Nat) (p:Nat→Int) (pc:Nat) (a x:Int) (cs:Nat→Int) (vd jt jf k:Int) (h:QM w0 w M KB SB OB UB (.slice po m pcap) ⟨pc,a,x,cs⟩ false vd) (hm:m≤2000) (hpc:pc≤1000) (ua:U32 a) (ux:U32 x) (uk:U32 k) :
  Calls Tryz.prog 108 #[.pointer (some ⟨M,0,none⟩),.agg #[.int .i64 68,.int .i64 jt,.int .i64 jf,.int .i64 k]] w fun e w'=>e=.returned (.tuple #[])∧QM w0 w' M KB SB OB UB (.slice po m pcap) ⟨pc,opr 5 a k,x,cs⟩ false vd:=by
 obtain ⟨c0,c1,c2,c3,c4,c5,c6,c7,c8,c9⟩:=h.cells
 obtain ⟨z1,z2,z3,z4,z5⟩:=h.free
 dsimp only at c1 c2 c3
 have lM:=h.m.lt
 have HH:Hid (QM w0 w M KB SB OB UB (.slice po m pcap) ⟨pc,a,x,cs⟩ false vd):=h
 obtain ⟨a0,a1⟩:=ua
 obtain ⟨x0,x1⟩:=ux
 obtain ⟨k0,k1⟩:=uk
 have hlk:(Instr.lookup 127 (.map (some OB)) (.int .i64 68) false).run Tryz.prog (w.alloc (.cells #[.int .i64 68,.int .i64 jt,.int .i64 jf,.int .i64 k] 63)).drew=.ok (.int .i64 5) (w.alloc (.cells #[.int .i64 68,.int .i64 jt,.int .i64 jf,.int .i64 k] 63)).drew:=look_op ((h.allo _).drew).io rfl
 have HA:Hid (∀ w',Calls Tryz.prog 130 #[.int .i64 5,.int .u32 a,.int .u32 k] w' fun e w''=>e=.returned (.tuple #[.int .u32 (opr 5 a k),.bool true])∧w''=w'):=fun w'=>by have:=Reckon_any 5 a k w' (by decide) ⟨a0,a1⟩ ⟨k0,k1⟩;exact this
 generalize opr 5 a k=V at *
 clear h
 go_enter Tryz.func108,Tryz.ntmps108
 go_wp2
 refine wp_region_tl 16 (by kernel_rfl) (by kernel_rfl) ?_
 simp only [List.take_succ_cons,List.take_zero,List.drop_succ_cons,List.drop_zero]
 repeat still_step
 still_call (HA.out _)
 repeat still_step
 refine wpStill_nil ?_
 go_wp2_with (go_at_call 141;refine (become_ok2 w0 _ M KB SB OB UB (.slice po m pcap) ⟨pc,a,x,cs⟩ false vd V (by repeat (first | exact HH.out | refine QM.drew ?_ | refine QM.drewN ?_ _ | refine QM.allo ?_ _))).mono ?_;rintro e w4 ⟨rfl,h4,k4⟩)
 go_end0
 exact ⟨rfl,h4⟩
set_option maxHeartbeats 1000000 in
theorem rk_84n (w0 w:World) (M KB SB OB UB:Nat) (po:Option Addr) (m pcap:Nat) (p:Nat→Int) (pc:Nat) (a x:Int) (cs:Nat→Int) (vd jt jf k:Int) (h:QM w0 w M KB SB OB UB (.slice po m pcap) ⟨pc,a,x,cs⟩ false vd) (hm:m≤2000) (hpc:pc≤1000) (ua:U32 a) (ux:U32 x) (uk:U32 k) :
  Calls Tryz.prog 108 #[.pointer (some ⟨M,0,none⟩),.agg #[.int .i64 84,.int .i64 jt,.int .i64 jf,.int .i64 k]] w fun e w'=>e=.returned (.tuple #[])∧QM w0 w' M KB SB OB UB (.slice po m pcap) ⟨pc,opr 6 a k,x,cs⟩ false vd:=by
 obtain ⟨c0,c1,c2,c3,c4,c5,c6,c7,c8,c9⟩:=h.cells
 obtain ⟨z1,z2,z3,z4,z5⟩:=h.free
 dsimp only at c1 c2 c3
 have lM:=h.m.lt
 have HH:Hid (QM w0 w M KB SB OB UB (.slice po m pcap) ⟨pc,a,x,cs⟩ false vd):=h
 obtain ⟨a0,a1⟩:=ua
 obtain ⟨x0,x1⟩:=ux
 obtain ⟨k0,k1⟩:=uk
 have hlk:(Instr.lookup 127 (.map (some OB)) (.int .i64 84) false).run Tryz.prog (w.alloc (.cells #[.int .i64 84,.int .i64 jt,.int .i64 jf,.int .i64 k] 63)).drew=.ok (.int .i64 6) (w.alloc (.cells #[.int .i64 84,.int .i64 jt,.int .i64 jf,.int .i64 k] 63)).drew:=look_op ((h.allo _).drew).io rfl
 have HA:Hid (∀ w',Calls Tryz.prog 130 #[.int .i64 6,.int .u32 a,.int .u32 k] w' fun e w''=>e=.returned (.tuple #[.int .u32 (opr 6 a k),.bool true])∧w''=w'):=fun w'=>by have:=Reckon_any 6 a k w' (by decide) ⟨a0,a1⟩ ⟨k0,k1⟩;exact this
 generalize opr 6 a k=V at *
 clear h
 go_enter Tryz.func108,Tryz.ntmps108
 go_wp2
 refine wp_region_tl 16 (by kernel_rfl) (by kernel_rfl) ?_
 simp only [List.take_succ_cons,List.take_zero,List.drop_succ_cons,List.drop_zero]
 repeat still_step
 still_call (HA.out _)
 repeat still_step
 refine wpStill_nil ?_
 go_wp2_with (go_at_call 141;refine (become_ok2 w0 _ M KB SB OB UB (.slice po m pcap) ⟨pc,a,x,cs⟩ false vd V (by repeat (first | exact HH.out | refine QM.drew ?_ | refine QM.drewN ?_ _ | refine QM.allo ?_ _))).mono ?_;rintro e w4 ⟨rfl,h4,k4⟩)
 go_end0
 exact ⟨rfl,h4⟩
set_option maxHeartbeats 1000000 in
theorem rk_164n (w0 w:World) (M KB SB OB UB:Nat) (po:Option Addr) (m pcap:Nat) (p:Nat→Int) (pc:Nat) (a x:Int) (cs:Nat→Int) (vd jt jf k:Int) (h:QM w0 w M KB SB OB UB (.slice po m pcap) ⟨pc,a,x,cs⟩ false vd) (hm:m≤2000) (hpc:pc≤1000) (ua:U32 a) (ux:U32 x) (uk:U32 k) :
  Calls Tryz.prog 108 #[.pointer (some ⟨M,0,none⟩),.agg #[.int .i64 164,.int .i64 jt,.int .i64 jf,.int .i64 k]] w fun e w'=>e=.returned (.tuple #[])∧QM w0 w' M KB SB OB UB (.slice po m pcap) ⟨pc,opr 7 a k,x,cs⟩ false vd:=by
 obtain ⟨c0,c1,c2,c3,c4,c5,c6,c7,c8,c9⟩:=h.cells
 obtain ⟨z1,z2,z3,z4,z5⟩:=h.free
 dsimp only at c1 c2 c3
 have lM:=h.m.lt
 have HH:Hid (QM w0 w M KB SB OB UB (.slice po m pcap) ⟨pc,a,x,cs⟩ false vd):=h
 obtain ⟨a0,a1⟩:=ua
 obtain ⟨x0,x1⟩:=ux
 obtain ⟨k0,k1⟩:=uk
 have hlk:(Instr.lookup 127 (.map (some OB)) (.int .i64 164) false).run Tryz.prog (w.alloc (.cells #[.int .i64 164,.int .i64 jt,.int .i64 jf,.int .i64 k] 63)).drew=.ok (.int .i64 7) (w.alloc (.cells #[.int .i64 164,.int .i64 jt,.int .i64 jf,.int .i64 k] 63)).drew:=look_op ((h.allo _).drew).io rfl
 have HA:Hid (∀ w',Calls Tryz.prog 130 #[.int .i64 7,.int .u32 a,.int .u32 k] w' fun e w''=>e=.returned (.tuple #[.int .u32 (opr 7 a k),.bool true])∧w''=w'):=fun w'=>by have:=Reckon_any 7 a k w' (by decide) ⟨a0,a1⟩ ⟨k0,k1⟩;exact this
 generalize opr 7 a k=V at *
 clear h
 go_enter Tryz.func108,Tryz.ntmps108
 go_wp2
 refine wp_region_tl 16 (by kernel_rfl) (by kernel_rfl) ?_
 simp only [List.take_succ_cons,List.take_zero,List.drop_succ_cons,List.drop_zero]
 repeat still_step
 still_call (HA.out _)
 repeat still_step
 refine wpStill_nil ?_
 go_wp2_with (go_at_call 141;refine (become_ok2 w0 _ M KB SB OB UB (.slice po m pcap) ⟨pc,a,x,cs⟩ false vd V (by repeat (first | exact HH.out | refine QM.drew ?_ | refine QM.drewN ?_ _ | refine QM.allo ?_ _))).mono ?_;rintro e w4 ⟨rfl,h4,k4⟩)
 go_end0
 exact ⟨rfl,h4⟩
set_option maxHeartbeats 1000000 in
theorem rk_100n (w0 w:World) (M KB SB OB UB:Nat) (po:Option Addr) (m pcap:Nat) (p:Nat→Int) (pc:Nat) (a x:Int) (cs:Nat→Int) (vd jt jf k:Int) (h:QM w0 w M KB SB OB UB (.slice po m pcap) ⟨pc,a,x,cs⟩ false vd) (hm:m≤2000) (hpc:pc≤1000) (ua:U32 a) (ux:U32 x) (uk:U32 k) :
  Calls Tryz.prog 108 #[.pointer (some ⟨M,0,none⟩),.agg #[.int .i64 100,.int .i64 jt,.int .i64 jf,.int .i64 k]] w fun e w'=>e=.returned (.tuple #[])∧QM w0 w' M KB SB OB UB (.slice po m pcap) ⟨pc,opr 8 a k,x,cs⟩ false vd:=by
 obtain ⟨c0,c1,c2,c3,c4,c5,c6,c7,c8,c9⟩:=h.cells
 obtain ⟨z1,z2,z3,z4,z5⟩:=h.free
 dsimp only at c1 c2 c3
 have lM:=h.m.lt
 have HH:Hid (QM w0 w M KB SB OB UB (.slice po m pcap) ⟨pc,a,x,cs⟩ false vd):=h
 obtain ⟨a0,a1⟩:=ua
 obtain ⟨x0,x1⟩:=ux
 obtain ⟨k0,k1⟩:=uk
 have hlk:(Instr.lookup 127 (.map (some OB)) (.int .i64 100) false).run Tryz.prog (w.alloc (.cells #[.int .i64 100,.int .i64 jt,.int .i64 jf,.int .i64 k] 63)).drew=.ok (.int .i64 8) (w.alloc (.cells #[.int .i64 100,.int .i64 jt,.int .i64 jf,.int .i64 k] 63)).drew:=look_op ((h.allo _).drew).io rfl
 have HA:Hid (∀ w',Calls Tryz.prog 130 #[.int .i64 8,.int .u32 a,.int .u32 k] w' fun e w''=>e=.returned (.tuple #[.int .u32 (opr 8 a k),.bool true])∧w''=w'):=fun w'=>by have:=Reckon_any 8 a k w' (by decide) ⟨a0,a1⟩ ⟨k0,k1⟩;exact this
 generalize opr 8 a k=V at *
 clear h
 go_enter Tryz.func108,Tryz.ntmps108
 go_wp2
 refine wp_region_tl 16 (by kernel_rfl) (by kernel_rfl) ?_
 simp only [List.take_succ_cons,List.take_zero,List.drop_succ_cons,List.drop_zero]
 repeat still_step
 still_call (HA.out _)
 repeat still_step
 refine wpStill_nil ?_
 go_wp2_with (go_at_call 141;refine (become_ok2 w0 _ M KB SB OB UB (.slice po m pcap) ⟨pc,a,x,cs⟩ false vd V (by repeat (first | exact HH.out | refine QM.drew ?_ | refine QM.drewN ?_ _ | refine QM.allo ?_ _))).mono ?_;rintro e w4 ⟨rfl,h4,k4⟩)
 go_end0
 exact ⟨rfl,h4⟩
set_option maxHeartbeats 1000000 in
theorem rk_116n (w0 w:World) (M KB SB OB UB:Nat) (po:Option Addr) (m pcap:Nat) (p:Nat→Int) (pc:Nat) (a x:Int) (cs:Nat→Int) (vd jt jf k:Int) (h:QM w0 w M KB SB OB UB (.slice po m pcap) ⟨pc,a,x,cs⟩ false vd) (hm:m≤2000) (hpc:pc≤1000) (ua:U32 a) (ux:U32 x) (uk:U32 k) :
  Calls Tryz.prog 108 #[.pointer (some ⟨M,0,none⟩),.agg #[.int .i64 116,.int .i64 jt,.int .i64 jf,.int .i64 k]] w fun e w'=>e=.returned (.tuple #[])∧QM w0 w' M KB SB OB UB (.slice po m pcap) ⟨pc,opr 9 a k,x,cs⟩ false vd:=by
 obtain ⟨c0,c1,c2,c3,c4,c5,c6,c7,c8,c9⟩:=h.cells
 obtain ⟨z1,z2,z3,z4,z5⟩:=h.free
 dsimp only at c1 c2 c3
 have lM:=h.m.lt
 have HH:Hid (QM w0 w M KB SB OB UB (.slice po m pcap) ⟨pc,a,x,cs⟩ false vd):=h
 obtain ⟨a0,a1⟩:=ua
 obtain ⟨x0,x1⟩:=ux
 obtain ⟨k0,k1⟩:=uk
 have hlk:(Instr.lookup 127 (.map (some OB)) (.int .i64 116) false).run Tryz.prog (w.alloc (.cells #[.int .i64 116,.int .i64 jt,.int .i64 jf,.int .i64 k] 63)).drew=.ok (.int .i64 9) (w.alloc (.cells #[.int .i64 116,.int .i64 jt,.int .i64 jf,.int .i64 k] 63)).drew:=look_op ((h.allo _).drew).io rfl
 have HA:Hid (∀ w',Calls Tryz.prog 130 #[.int .i64 9,.int .u32 a,.int .u32 k] w' fun e w''=>e=.returned (.tuple #[.int .u32 (opr 9 a k),.bool true])∧w''=w'):=fun w'=>by have:=Reckon_any 9 a k w' (by decide) ⟨a0,a1⟩ ⟨k0,k1⟩;exact this
 generalize opr 9 a k=V at *
 clear h
 go_enter Tryz.func108,Tryz.ntmps108
 go_wp2
 refine wp_region_tl 16 (by kernel_rfl) (by kernel_rfl) ?_
 simp only [List.take_succ_cons,List.take_zero,List.drop_succ_cons,List.drop_zero]
 repeat still_step
 still_call (HA.out _)
 repeat still_step
 refine wpStill_nil ?_
 go_wp2_with (go_at_call 141;refine (become_ok2 w0 _ M KB SB OB UB (.slice po m pcap) ⟨pc,a,x,cs⟩ false vd V (by repeat (first | exact HH.out | refine QM.drew ?_ | refine QM.drewN ?_ _ | refine QM.allo ?_ _))).mono ?_;rintro e w4 ⟨rfl,h4,k4⟩)
 go_end0
 exact ⟨rfl,h4⟩
end Go.Proofs.YthbcfepbkkbjiaaGreatDoor
