import Derived.Test.YthbcfepbkkbjiaaGreatDoorIRB
set_option linter.unusedSimpArgs false
set_option linter.unusedVariables false
set_option maxRecDepth 100000
namespace Go.Proofs.YthbcfepbkkbjiaaGreatDoor
open Go.RowKit
set_option maxHeartbeats 1000000 in
theorem jp_29n (w0 w:World) (M KB SB OB UB:Nat) (po:Option Addr) (m pcap:Nat) (p:Nat→Int) (pc:Nat) (a x:Int) (cs:Nat→Int) (vd jt jf k:Int) (h:QM w0 w M KB SB OB UB (.slice po m pcap) ⟨pc,a,x,cs⟩ false vd) (hm:m≤2000) (hpc:pc≤1000) (ua:U32 a) (ux:U32 x) (uk:U32 k) (hjt:0≤jt∧jt≤4294967295) (hjf:0≤jf∧jf≤4294967295) (hq:askv 0 a x=false) :
  Calls Tryz.prog 109 #[.pointer (some ⟨M,0,none⟩),.agg #[.int .i64 29,.int .i64 jt,.int .i64 jf,.int .i64 k]] w fun e w'=>e=.returned (.tuple #[])∧QM w0 w' M KB SB OB UB (.slice po m pcap) ⟨pc+jf.toNat,a,x,cs⟩ false vd:=by
 obtain ⟨c0,c1,c2,c3,c4,c5,c6,c7,c8,c9⟩:=h.cells
 obtain ⟨z1,z2,z3,z4,z5⟩:=h.free
 dsimp only at c1 c2 c3
 have lM:=h.m.lt
 have HH:Hid (QM w0 w M KB SB OB UB (.slice po m pcap) ⟨pc,a,x,cs⟩ false vd):=h
 obtain ⟨a0,a1⟩:=ua
 obtain ⟨x0,x1⟩:=ux
 obtain ⟨k0,k1⟩:=uk
 have hlk:(Instr.lookup 129 (.map (some UB)) (.int .i64 29) false).run Tryz.prog (w.alloc (.cells #[.int .i64 29,.int .i64 jt,.int .i64 jf,.int .i64 k] 63)).drew=.ok (.int .i64 0) (w.alloc (.cells #[.int .i64 29,.int .i64 jt,.int .i64 jf,.int .i64 k] 63)).drew:=look_qu ((h.allo _).drew).iu rfl
 have HA:Hid (∀ w',Calls Tryz.prog 131 #[.int .i64 0,.int .u32 a,.int .u32 x] w' fun e w''=>e=.returned (.bool false)∧w''=w'):=fun w'=>by have:=Holds_any 0 a x w' (by decide);rwa [hq] at this
 clear hq
 obtain ⟨t,rfl⟩:∃ t:Nat,jt=t:=⟨jt.toNat,by omega⟩
 obtain ⟨f,rfl⟩:∃ f:Nat,jf=f:=⟨jf.toNat,by omega⟩
 rw [Int.toNat_natCast]
 clear h
 go_enter Tryz.func109,Tryz.ntmps109
 go_wp2
 refine wp_region_tl 15 (by kernel_rfl) (by kernel_rfl) ?_
 simp only [List.take_succ_cons,List.take_zero,List.drop_succ_cons,List.drop_zero]
 repeat still_step
 still_call (HA.out _)
 repeat still_step
 refine wpStill_nil ?_
 go_wp2_with (go_at_call 142;refine (choose_f w0 _ M KB SB OB UB (.slice po m pcap) ⟨pc,a,x,cs⟩ false vd _ t f k (by repeat (first | exact HH.out | refine QM.drew ?_ | refine QM.drewN ?_ _ | refine QM.allo ?_ _)) (by dsimp only;omega) (by omega) (by omega)).mono ?_;rintro e w4 ⟨rfl,h4⟩)
 go_end0
 exact ⟨rfl,h4⟩
set_option maxHeartbeats 1000000 in
theorem jp_29y (w0 w:World) (M KB SB OB UB:Nat) (po:Option Addr) (m pcap:Nat) (p:Nat→Int) (pc:Nat) (a x:Int) (cs:Nat→Int) (vd jt jf k:Int) (h:QM w0 w M KB SB OB UB (.slice po m pcap) ⟨pc,a,x,cs⟩ false vd) (hm:m≤2000) (hpc:pc≤1000) (ua:U32 a) (ux:U32 x) (uk:U32 k) (hjt:0≤jt∧jt≤4294967295) (hjf:0≤jf∧jf≤4294967295) (hq:askv 0 a x=true) :
  Calls Tryz.prog 109 #[.pointer (some ⟨M,0,none⟩),.agg #[.int .i64 29,.int .i64 jt,.int .i64 jf,.int .i64 k]] w fun e w'=>e=.returned (.tuple #[])∧QM w0 w' M KB SB OB UB (.slice po m pcap) ⟨pc+jt.toNat,a,x,cs⟩ false vd:=by
 obtain ⟨c0,c1,c2,c3,c4,c5,c6,c7,c8,c9⟩:=h.cells
 obtain ⟨z1,z2,z3,z4,z5⟩:=h.free
 dsimp only at c1 c2 c3
 have lM:=h.m.lt
 have HH:Hid (QM w0 w M KB SB OB UB (.slice po m pcap) ⟨pc,a,x,cs⟩ false vd):=h
 obtain ⟨a0,a1⟩:=ua
 obtain ⟨x0,x1⟩:=ux
 obtain ⟨k0,k1⟩:=uk
 have hlk:(Instr.lookup 129 (.map (some UB)) (.int .i64 29) false).run Tryz.prog (w.alloc (.cells #[.int .i64 29,.int .i64 jt,.int .i64 jf,.int .i64 k] 63)).drew=.ok (.int .i64 0) (w.alloc (.cells #[.int .i64 29,.int .i64 jt,.int .i64 jf,.int .i64 k] 63)).drew:=look_qu ((h.allo _).drew).iu rfl
 have HA:Hid (∀ w',Calls Tryz.prog 131 #[.int .i64 0,.int .u32 a,.int .u32 x] w' fun e w''=>e=.returned (.bool true)∧w''=w'):=fun w'=>by have:=Holds_any 0 a x w' (by decide);rwa [hq] at this
 clear hq
 obtain ⟨t,rfl⟩:∃ t:Nat,jt=t:=⟨jt.toNat,by omega⟩
 obtain ⟨f,rfl⟩:∃ f:Nat,jf=f:=⟨jf.toNat,by omega⟩
 rw [Int.toNat_natCast]
 clear h
 go_enter Tryz.func109,Tryz.ntmps109
 go_wp2
 refine wp_region_tl 15 (by kernel_rfl) (by kernel_rfl) ?_
 simp only [List.take_succ_cons,List.take_zero,List.drop_succ_cons,List.drop_zero]
 repeat still_step
 still_call (HA.out _)
 repeat still_step
 refine wpStill_nil ?_
 go_wp2_with (go_at_call 142;refine (choose_t w0 _ M KB SB OB UB (.slice po m pcap) ⟨pc,a,x,cs⟩ false vd _ t f k (by repeat (first | exact HH.out | refine QM.drew ?_ | refine QM.drewN ?_ _ | refine QM.allo ?_ _)) (by dsimp only;omega) (by omega) (by omega)).mono ?_;rintro e w4 ⟨rfl,h4⟩)
 go_end0
 exact ⟨rfl,h4⟩
set_option maxHeartbeats 1000000 in
theorem jp_45n (w0 w:World) (M KB SB OB UB:Nat) (po:Option Addr) (m pcap:Nat) (p:Nat→Int) (pc:Nat) (a x:Int) (cs:Nat→Int) (vd jt jf k:Int) (h:QM w0 w M KB SB OB UB (.slice po m pcap) ⟨pc,a,x,cs⟩ false vd) (hm:m≤2000) (hpc:pc≤1000) (ua:U32 a) (ux:U32 x) (uk:U32 k) (hjt:0≤jt∧jt≤4294967295) (hjf:0≤jf∧jf≤4294967295) (hq:askv 1 a x=false) :
  Calls Tryz.prog 109 #[.pointer (some ⟨M,0,none⟩),.agg #[.int .i64 45,.int .i64 jt,.int .i64 jf,.int .i64 k]] w fun e w'=>e=.returned (.tuple #[])∧QM w0 w' M KB SB OB UB (.slice po m pcap) ⟨pc+jf.toNat,a,x,cs⟩ false vd:=by
 obtain ⟨c0,c1,c2,c3,c4,c5,c6,c7,c8,c9⟩:=h.cells
 obtain ⟨z1,z2,z3,z4,z5⟩:=h.free
 dsimp only at c1 c2 c3
 have lM:=h.m.lt
 have HH:Hid (QM w0 w M KB SB OB UB (.slice po m pcap) ⟨pc,a,x,cs⟩ false vd):=h
 obtain ⟨a0,a1⟩:=ua
 obtain ⟨x0,x1⟩:=ux
 obtain ⟨k0,k1⟩:=uk
 have hlk:(Instr.lookup 129 (.map (some UB)) (.int .i64 45) false).run Tryz.prog (w.alloc (.cells #[.int .i64 45,.int .i64 jt,.int .i64 jf,.int .i64 k] 63)).drew=.ok (.int .i64 1) (w.alloc (.cells #[.int .i64 45,.int .i64 jt,.int .i64 jf,.int .i64 k] 63)).drew:=look_qu ((h.allo _).drew).iu rfl
 have HA:Hid (∀ w',Calls Tryz.prog 131 #[.int .i64 1,.int .u32 a,.int .u32 x] w' fun e w''=>e=.returned (.bool false)∧w''=w'):=fun w'=>by have:=Holds_any 1 a x w' (by decide);rwa [hq] at this
 clear hq
 obtain ⟨t,rfl⟩:∃ t:Nat,jt=t:=⟨jt.toNat,by omega⟩
 obtain ⟨f,rfl⟩:∃ f:Nat,jf=f:=⟨jf.toNat,by omega⟩
 rw [Int.toNat_natCast]
 clear h
 go_enter Tryz.func109,Tryz.ntmps109
 go_wp2
 refine wp_region_tl 15 (by kernel_rfl) (by kernel_rfl) ?_
 simp only [List.take_succ_cons,List.take_zero,List.drop_succ_cons,List.drop_zero]
 repeat still_step
 still_call (HA.out _)
 repeat still_step
 refine wpStill_nil ?_
 go_wp2_with (go_at_call 142;refine (choose_f w0 _ M KB SB OB UB (.slice po m pcap) ⟨pc,a,x,cs⟩ false vd _ t f k (by repeat (first | exact HH.out | refine QM.drew ?_ | refine QM.drewN ?_ _ | refine QM.allo ?_ _)) (by dsimp only;omega) (by omega) (by omega)).mono ?_;rintro e w4 ⟨rfl,h4⟩)
 go_end0
 exact ⟨rfl,h4⟩
set_option maxHeartbeats 1000000 in
theorem jp_45y (w0 w:World) (M KB SB OB UB:Nat) (po:Option Addr) (m pcap:Nat) (p:Nat→Int) (pc:Nat) (a x:Int) (cs:Nat→Int) (vd jt jf k:Int) (h:QM w0 w M KB SB OB UB (.slice po m pcap) ⟨pc,a,x,cs⟩ false vd) (hm:m≤2000) (hpc:pc≤1000) (ua:U32 a) (ux:U32 x) (uk:U32 k) (hjt:0≤jt∧jt≤4294967295) (hjf:0≤jf∧jf≤4294967295) (hq:askv 1 a x=true) :
  Calls Tryz.prog 109 #[.pointer (some ⟨M,0,none⟩),.agg #[.int .i64 45,.int .i64 jt,.int .i64 jf,.int .i64 k]] w fun e w'=>e=.returned (.tuple #[])∧QM w0 w' M KB SB OB UB (.slice po m pcap) ⟨pc+jt.toNat,a,x,cs⟩ false vd:=by
 obtain ⟨c0,c1,c2,c3,c4,c5,c6,c7,c8,c9⟩:=h.cells
 obtain ⟨z1,z2,z3,z4,z5⟩:=h.free
 dsimp only at c1 c2 c3
 have lM:=h.m.lt
 have HH:Hid (QM w0 w M KB SB OB UB (.slice po m pcap) ⟨pc,a,x,cs⟩ false vd):=h
 obtain ⟨a0,a1⟩:=ua
 obtain ⟨x0,x1⟩:=ux
 obtain ⟨k0,k1⟩:=uk
 have hlk:(Instr.lookup 129 (.map (some UB)) (.int .i64 45) false).run Tryz.prog (w.alloc (.cells #[.int .i64 45,.int .i64 jt,.int .i64 jf,.int .i64 k] 63)).drew=.ok (.int .i64 1) (w.alloc (.cells #[.int .i64 45,.int .i64 jt,.int .i64 jf,.int .i64 k] 63)).drew:=look_qu ((h.allo _).drew).iu rfl
 have HA:Hid (∀ w',Calls Tryz.prog 131 #[.int .i64 1,.int .u32 a,.int .u32 x] w' fun e w''=>e=.returned (.bool true)∧w''=w'):=fun w'=>by have:=Holds_any 1 a x w' (by decide);rwa [hq] at this
 clear hq
 obtain ⟨t,rfl⟩:∃ t:Nat,jt=t:=⟨jt.toNat,by omega⟩
 obtain ⟨f,rfl⟩:∃ f:Nat,jf=f:=⟨jf.toNat,by omega⟩
 rw [Int.toNat_natCast]
 clear h
 go_enter Tryz.func109,Tryz.ntmps109
 go_wp2
 refine wp_region_tl 15 (by kernel_rfl) (by kernel_rfl) ?_
 simp only [List.take_succ_cons,List.take_zero,List.drop_succ_cons,List.drop_zero]
 repeat still_step
 still_call (HA.out _)
 repeat still_step
 refine wpStill_nil ?_
 go_wp2_with (go_at_call 142;refine (choose_t w0 _ M KB SB OB UB (.slice po m pcap) ⟨pc,a,x,cs⟩ false vd _ t f k (by repeat (first | exact HH.out | refine QM.drew ?_ | refine QM.drewN ?_ _ | refine QM.allo ?_ _)) (by dsimp only;omega) (by omega) (by omega)).mono ?_;rintro e w4 ⟨rfl,h4⟩)
 go_end0
 exact ⟨rfl,h4⟩
set_option maxHeartbeats 1000000 in
theorem jp_61n (w0 w:World) (M KB SB OB UB:Nat) (po:Option Addr) (m pcap:Nat) (p:Nat→Int) (pc:Nat) (a x:Int) (cs:Nat→Int) (vd jt jf k:Int) (h:QM w0 w M KB SB OB UB (.slice po m pcap) ⟨pc,a,x,cs⟩ false vd) (hm:m≤2000) (hpc:pc≤1000) (ua:U32 a) (ux:U32 x) (uk:U32 k) (hjt:0≤jt∧jt≤4294967295) (hjf:0≤jf∧jf≤4294967295) (hq:askv 2 a x=false) :
  Calls Tryz.prog 109 #[.pointer (some ⟨M,0,none⟩),.agg #[.int .i64 61,.int .i64 jt,.int .i64 jf,.int .i64 k]] w fun e w'=>e=.returned (.tuple #[])∧QM w0 w' M KB SB OB UB (.slice po m pcap) ⟨pc+jf.toNat,a,x,cs⟩ false vd:=by
 obtain ⟨c0,c1,c2,c3,c4,c5,c6,c7,c8,c9⟩:=h.cells
 obtain ⟨z1,z2,z3,z4,z5⟩:=h.free
 dsimp only at c1 c2 c3
 have lM:=h.m.lt
 have HH:Hid (QM w0 w M KB SB OB UB (.slice po m pcap) ⟨pc,a,x,cs⟩ false vd):=h
 obtain ⟨a0,a1⟩:=ua
 obtain ⟨x0,x1⟩:=ux
 obtain ⟨k0,k1⟩:=uk
 have hlk:(Instr.lookup 129 (.map (some UB)) (.int .i64 61) false).run Tryz.prog (w.alloc (.cells #[.int .i64 61,.int .i64 jt,.int .i64 jf,.int .i64 k] 63)).drew=.ok (.int .i64 2) (w.alloc (.cells #[.int .i64 61,.int .i64 jt,.int .i64 jf,.int .i64 k] 63)).drew:=look_qu ((h.allo _).drew).iu rfl
 have HA:Hid (∀ w',Calls Tryz.prog 131 #[.int .i64 2,.int .u32 a,.int .u32 x] w' fun e w''=>e=.returned (.bool false)∧w''=w'):=fun w'=>by have:=Holds_any 2 a x w' (by decide);rwa [hq] at this
 clear hq
 obtain ⟨t,rfl⟩:∃ t:Nat,jt=t:=⟨jt.toNat,by omega⟩
 obtain ⟨f,rfl⟩:∃ f:Nat,jf=f:=⟨jf.toNat,by omega⟩
 rw [Int.toNat_natCast]
 clear h
 go_enter Tryz.func109,Tryz.ntmps109
 go_wp2
 refine wp_region_tl 15 (by kernel_rfl) (by kernel_rfl) ?_
 simp only [List.take_succ_cons,List.take_zero,List.drop_succ_cons,List.drop_zero]
 repeat still_step
 still_call (HA.out _)
 repeat still_step
 refine wpStill_nil ?_
 go_wp2_with (go_at_call 142;refine (choose_f w0 _ M KB SB OB UB (.slice po m pcap) ⟨pc,a,x,cs⟩ false vd _ t f k (by repeat (first | exact HH.out | refine QM.drew ?_ | refine QM.drewN ?_ _ | refine QM.allo ?_ _)) (by dsimp only;omega) (by omega) (by omega)).mono ?_;rintro e w4 ⟨rfl,h4⟩)
 go_end0
 exact ⟨rfl,h4⟩
set_option maxHeartbeats 1000000 in
theorem jp_61y (w0 w:World) (M KB SB OB UB:Nat) (po:Option Addr) (m pcap:Nat) (p:Nat→Int) (pc:Nat) (a x:Int) (cs:Nat→Int) (vd jt jf k:Int) (h:QM w0 w M KB SB OB UB (.slice po m pcap) ⟨pc,a,x,cs⟩ false vd) (hm:m≤2000) (hpc:pc≤1000) (ua:U32 a) (ux:U32 x) (uk:U32 k) (hjt:0≤jt∧jt≤4294967295) (hjf:0≤jf∧jf≤4294967295) (hq:askv 2 a x=true) :
  Calls Tryz.prog 109 #[.pointer (some ⟨M,0,none⟩),.agg #[.int .i64 61,.int .i64 jt,.int .i64 jf,.int .i64 k]] w fun e w'=>e=.returned (.tuple #[])∧QM w0 w' M KB SB OB UB (.slice po m pcap) ⟨pc+jt.toNat,a,x,cs⟩ false vd:=by
 obtain ⟨c0,c1,c2,c3,c4,c5,c6,c7,c8,c9⟩:=h.cells
 obtain ⟨z1,z2,z3,z4,z5⟩:=h.free
 dsimp only at c1 c2 c3
 have lM:=h.m.lt
 have HH:Hid (QM w0 w M KB SB OB UB (.slice po m pcap) ⟨pc,a,x,cs⟩ false vd):=h
 obtain ⟨a0,a1⟩:=ua
 obtain ⟨x0,x1⟩:=ux
 obtain ⟨k0,k1⟩:=uk
 have hlk:(Instr.lookup 129 (.map (some UB)) (.int .i64 61) false).run Tryz.prog (w.alloc (.cells #[.int .i64 61,.int .i64 jt,.int .i64 jf,.int .i64 k] 63)).drew=.ok (.int .i64 2) (w.alloc (.cells #[.int .i64 61,.int .i64 jt,.int .i64 jf,.int .i64 k] 63)).drew:=look_qu ((h.allo _).drew).iu rfl
 have HA:Hid (∀ w',Calls Tryz.prog 131 #[.int .i64 2,.int .u32 a,.int .u32 x] w' fun e w''=>e=.returned (.bool true)∧w''=w'):=fun w'=>by have:=Holds_any 2 a x w' (by decide);rwa [hq] at this
 clear hq
 obtain ⟨t,rfl⟩:∃ t:Nat,jt=t:=⟨jt.toNat,by omega⟩
 obtain ⟨f,rfl⟩:∃ f:Nat,jf=f:=⟨jf.toNat,by omega⟩
 rw [Int.toNat_natCast]
 clear h
 go_enter Tryz.func109,Tryz.ntmps109
 go_wp2
 refine wp_region_tl 15 (by kernel_rfl) (by kernel_rfl) ?_
 simp only [List.take_succ_cons,List.take_zero,List.drop_succ_cons,List.drop_zero]
 repeat still_step
 still_call (HA.out _)
 repeat still_step
 refine wpStill_nil ?_
 go_wp2_with (go_at_call 142;refine (choose_t w0 _ M KB SB OB UB (.slice po m pcap) ⟨pc,a,x,cs⟩ false vd _ t f k (by repeat (first | exact HH.out | refine QM.drew ?_ | refine QM.drewN ?_ _ | refine QM.allo ?_ _)) (by dsimp only;omega) (by omega) (by omega)).mono ?_;rintro e w4 ⟨rfl,h4⟩)
 go_end0
 exact ⟨rfl,h4⟩
set_option maxHeartbeats 1000000 in
theorem jp_77n (w0 w:World) (M KB SB OB UB:Nat) (po:Option Addr) (m pcap:Nat) (p:Nat→Int) (pc:Nat) (a x:Int) (cs:Nat→Int) (vd jt jf k:Int) (h:QM w0 w M KB SB OB UB (.slice po m pcap) ⟨pc,a,x,cs⟩ false vd) (hm:m≤2000) (hpc:pc≤1000) (ua:U32 a) (ux:U32 x) (uk:U32 k) (hjt:0≤jt∧jt≤4294967295) (hjf:0≤jf∧jf≤4294967295) (hq:askv 3 a x=false) :
  Calls Tryz.prog 109 #[.pointer (some ⟨M,0,none⟩),.agg #[.int .i64 77,.int .i64 jt,.int .i64 jf,.int .i64 k]] w fun e w'=>e=.returned (.tuple #[])∧QM w0 w' M KB SB OB UB (.slice po m pcap) ⟨pc+jf.toNat,a,x,cs⟩ false vd:=by
 obtain ⟨c0,c1,c2,c3,c4,c5,c6,c7,c8,c9⟩:=h.cells
 obtain ⟨z1,z2,z3,z4,z5⟩:=h.free
 dsimp only at c1 c2 c3
 have lM:=h.m.lt
 have HH:Hid (QM w0 w M KB SB OB UB (.slice po m pcap) ⟨pc,a,x,cs⟩ false vd):=h
 obtain ⟨a0,a1⟩:=ua
 obtain ⟨x0,x1⟩:=ux
 obtain ⟨k0,k1⟩:=uk
 have hlk:(Instr.lookup 129 (.map (some UB)) (.int .i64 77) false).run Tryz.prog (w.alloc (.cells #[.int .i64 77,.int .i64 jt,.int .i64 jf,.int .i64 k] 63)).drew=.ok (.int .i64 3) (w.alloc (.cells #[.int .i64 77,.int .i64 jt,.int .i64 jf,.int .i64 k] 63)).drew:=look_qu ((h.allo _).drew).iu rfl
 have HA:Hid (∀ w',Calls Tryz.prog 131 #[.int .i64 3,.int .u32 a,.int .u32 x] w' fun e w''=>e=.returned (.bool false)∧w''=w'):=fun w'=>by have:=Holds_any 3 a x w' (by decide);rwa [hq] at this
 clear hq
 obtain ⟨t,rfl⟩:∃ t:Nat,jt=t:=⟨jt.toNat,by omega⟩
 obtain ⟨f,rfl⟩:∃ f:Nat,jf=f:=⟨jf.toNat,by omega⟩
 rw [Int.toNat_natCast]
 clear h
 go_enter Tryz.func109,Tryz.ntmps109
 go_wp2
 refine wp_region_tl 15 (by kernel_rfl) (by kernel_rfl) ?_
 simp only [List.take_succ_cons,List.take_zero,List.drop_succ_cons,List.drop_zero]
 repeat still_step
 still_call (HA.out _)
 repeat still_step
 refine wpStill_nil ?_
 go_wp2_with (go_at_call 142;refine (choose_f w0 _ M KB SB OB UB (.slice po m pcap) ⟨pc,a,x,cs⟩ false vd _ t f k (by repeat (first | exact HH.out | refine QM.drew ?_ | refine QM.drewN ?_ _ | refine QM.allo ?_ _)) (by dsimp only;omega) (by omega) (by omega)).mono ?_;rintro e w4 ⟨rfl,h4⟩)
 go_end0
 exact ⟨rfl,h4⟩
set_option maxHeartbeats 1000000 in
theorem jp_77y (w0 w:World) (M KB SB OB UB:Nat) (po:Option Addr) (m pcap:Nat) (p:Nat→Int) (pc:Nat) (a x:Int) (cs:Nat→Int) (vd jt jf k:Int) (h:QM w0 w M KB SB OB UB (.slice po m pcap) ⟨pc,a,x,cs⟩ false vd) (hm:m≤2000) (hpc:pc≤1000) (ua:U32 a) (ux:U32 x) (uk:U32 k) (hjt:0≤jt∧jt≤4294967295) (hjf:0≤jf∧jf≤4294967295) (hq:askv 3 a x=true) :
  Calls Tryz.prog 109 #[.pointer (some ⟨M,0,none⟩),.agg #[.int .i64 77,.int .i64 jt,.int .i64 jf,.int .i64 k]] w fun e w'=>e=.returned (.tuple #[])∧QM w0 w' M KB SB OB UB (.slice po m pcap) ⟨pc+jt.toNat,a,x,cs⟩ false vd:=by
 obtain ⟨c0,c1,c2,c3,c4,c5,c6,c7,c8,c9⟩:=h.cells
 obtain ⟨z1,z2,z3,z4,z5⟩:=h.free
 dsimp only at c1 c2 c3
 have lM:=h.m.lt
 have HH:Hid (QM w0 w M KB SB OB UB (.slice po m pcap) ⟨pc,a,x,cs⟩ false vd):=h
 obtain ⟨a0,a1⟩:=ua
 obtain ⟨x0,x1⟩:=ux
 obtain ⟨k0,k1⟩:=uk
 have hlk:(Instr.lookup 129 (.map (some UB)) (.int .i64 77) false).run Tryz.prog (w.alloc (.cells #[.int .i64 77,.int .i64 jt,.int .i64 jf,.int .i64 k] 63)).drew=.ok (.int .i64 3) (w.alloc (.cells #[.int .i64 77,.int .i64 jt,.int .i64 jf,.int .i64 k] 63)).drew:=look_qu ((h.allo _).drew).iu rfl
 have HA:Hid (∀ w',Calls Tryz.prog 131 #[.int .i64 3,.int .u32 a,.int .u32 x] w' fun e w''=>e=.returned (.bool true)∧w''=w'):=fun w'=>by have:=Holds_any 3 a x w' (by decide);rwa [hq] at this
 clear hq
 obtain ⟨t,rfl⟩:∃ t:Nat,jt=t:=⟨jt.toNat,by omega⟩
 obtain ⟨f,rfl⟩:∃ f:Nat,jf=f:=⟨jf.toNat,by omega⟩
 rw [Int.toNat_natCast]
 clear h
 go_enter Tryz.func109,Tryz.ntmps109
 go_wp2
 refine wp_region_tl 15 (by kernel_rfl) (by kernel_rfl) ?_
 simp only [List.take_succ_cons,List.take_zero,List.drop_succ_cons,List.drop_zero]
 repeat still_step
 still_call (HA.out _)
 repeat still_step
 refine wpStill_nil ?_
 go_wp2_with (go_at_call 142;refine (choose_t w0 _ M KB SB OB UB (.slice po m pcap) ⟨pc,a,x,cs⟩ false vd _ t f k (by repeat (first | exact HH.out | refine QM.drew ?_ | refine QM.drewN ?_ _ | refine QM.allo ?_ _)) (by dsimp only;omega) (by omega) (by omega)).mono ?_;rintro e w4 ⟨rfl,h4⟩)
 go_end0
 exact ⟨rfl,h4⟩
end Go.Proofs.YthbcfepbkkbjiaaGreatDoor
