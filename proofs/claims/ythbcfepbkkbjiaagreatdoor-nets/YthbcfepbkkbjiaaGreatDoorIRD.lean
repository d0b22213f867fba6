import Derived.Test.YthbcfepbkkbjiaaGreatDoorIRB
set_option linter.unusedSimpArgs false
set_option linter.unusedVariables false
set_option maxRecDepth 100000
namespace Go.Proofs.YthbcfepbkkbjiaaGreatDoor
open Go.RowKit
set_option maxHeartbeats 1000000 in
theorem tk_96 (w0 w:World) (M KB SB OB UB:Nat) (po:Option Addr) (m pcap:Nat) (p:Nat→Int) (pc:Nat) (a x:Int) (cs:Nat→Int) (vd jt jf k:Int) (h:QM w0 w M KB SB OB UB (.slice po m pcap) ⟨pc,a,x,cs⟩ false vd) (hm:m≤2000) (hpc:pc≤1000) (ua:U32 a) (ux:U32 x) (uk:U32 k) (k16:k<16) :
  Calls Tryz.prog 106 #[.pointer (some ⟨M,0,none⟩),.agg #[.int .i64 96,.int .i64 jt,.int .i64 jf,.int .i64 k]] w fun e w'=>e=.returned (.tuple #[])∧QM w0 w' M KB SB OB UB (.slice po m pcap) ⟨pc,cs k.toNat,x,cs⟩ false vd:=by
 obtain ⟨c0,c1,c2,c3,c4,c5,c6,c7,c8,c9⟩:=h.cells
 obtain ⟨z1,z2,z3,z4,z5⟩:=h.free
 dsimp only at c1 c2 c3
 have lM:=h.m.lt
 have HH:Hid (QM w0 w M KB SB OB UB (.slice po m pcap) ⟨pc,a,x,cs⟩ false vd):=h
 obtain ⟨a0,a1⟩:=ua
 obtain ⟨x0,x1⟩:=ux
 obtain ⟨k0,k1⟩:=uk
 have ck:w.cell? ⟨M,3+k.toNat,none⟩=some (.int .u32 (cs k.toNat)):=h.cs (S:=⟨pc,a,x,cs⟩) (by omega)
 have zk:=h.m.frozen (3+k.toNat)
 clear h
 go_enter Tryz.func106,Tryz.ntmps106
 go_wp2
 go_quiet (fail)
 go_wp2
 go_end0
 exact ⟨rfl,by repeat (first | exact HH.out | refine QM.setA (S:=⟨pc,a,x,cs⟩) ?_ _ | refine QM.drew ?_ | refine QM.drewN ?_ _ | refine QM.allo ?_ _)⟩
set_option maxHeartbeats 1000000 in
theorem tk_0 (w0 w:World) (M KB SB OB UB:Nat) (po:Option Addr) (m pcap:Nat) (p:Nat→Int) (pc:Nat) (a x:Int) (cs:Nat→Int) (vd jt jf k:Int) (h:QM w0 w M KB SB OB UB (.slice po m pcap) ⟨pc,a,x,cs⟩ false vd) (hm:m≤2000) (hpc:pc≤1000) (ua:U32 a) (ux:U32 x) (uk:U32 k) :
  Calls Tryz.prog 106 #[.pointer (some ⟨M,0,none⟩),.agg #[.int .i64 0,.int .i64 jt,.int .i64 jf,.int .i64 k]] w fun e w'=>e=.returned (.tuple #[])∧QM w0 w' M KB SB OB UB (.slice po m pcap) ⟨pc,k,x,cs⟩ false vd:=by
 obtain ⟨c0,c1,c2,c3,c4,c5,c6,c7,c8,c9⟩:=h.cells
 obtain ⟨z1,z2,z3,z4,z5⟩:=h.free
 dsimp only at c1 c2 c3
 have lM:=h.m.lt
 have HH:Hid (QM w0 w M KB SB OB UB (.slice po m pcap) ⟨pc,a,x,cs⟩ false vd):=h
 obtain ⟨a0,a1⟩:=ua
 obtain ⟨x0,x1⟩:=ux
 obtain ⟨k0,k1⟩:=uk
 clear h
 go_enter Tryz.func106,Tryz.ntmps106
 go_wp2
 go_end0
 exact ⟨rfl,by repeat (first | exact HH.out | refine QM.setA (S:=⟨pc,a,x,cs⟩) ?_ _ | refine QM.drew ?_ | refine QM.drewN ?_ _ | refine QM.allo ?_ _)⟩
set_option maxHeartbeats 1000000 in
theorem tk_128 (w0 w:World) (M KB SB OB UB:Nat) (po:Option Addr) (m pcap:Nat) (p:Nat→Int) (pc:Nat) (a x:Int) (cs:Nat→Int) (vd jt jf k:Int) (h:QM w0 w M KB SB OB UB (.slice po m pcap) ⟨pc,a,x,cs⟩ false vd) (hm:m≤2000) (hpc:pc≤1000) (ua:U32 a) (ux:U32 x) (uk:U32 k) :
  Calls Tryz.prog 106 #[.pointer (some ⟨M,0,none⟩),.agg #[.int .i64 128,.int .i64 jt,.int .i64 jf,.int .i64 k]] w fun e w'=>e=.returned (.tuple #[])∧QM w0 w' M KB SB OB UB (.slice po m pcap) ⟨pc,m,x,cs⟩ false vd:=by
 obtain ⟨c0,c1,c2,c3,c4,c5,c6,c7,c8,c9⟩:=h.cells
 obtain ⟨z1,z2,z3,z4,z5⟩:=h.free
 dsimp only at c1 c2 c3
 have lM:=h.m.lt
 have HH:Hid (QM w0 w M KB SB OB UB (.slice po m pcap) ⟨pc,a,x,cs⟩ false vd):=h
 obtain ⟨a0,a1⟩:=ua
 obtain ⟨x0,x1⟩:=ux
 obtain ⟨k0,k1⟩:=uk
 clear h
 go_enter Tryz.func106,Tryz.ntmps106
 go_wp2
 go_end0
 exact ⟨rfl,by repeat (first | exact HH.out | refine QM.setA (S:=⟨pc,a,x,cs⟩) ?_ _ | refine QM.drew ?_ | refine QM.drewN ?_ _ | refine QM.allo ?_ _)⟩
set_option maxHeartbeats 1000000 in
theorem tk_97 (w0 w:World) (M KB SB OB UB:Nat) (po:Option Addr) (m pcap:Nat) (p:Nat→Int) (pc:Nat) (a x:Int) (cs:Nat→Int) (vd jt jf k:Int) (h:QM w0 w M KB SB OB UB (.slice po m pcap) ⟨pc,a,x,cs⟩ false vd) (hm:m≤2000) (hpc:pc≤1000) (ua:U32 a) (ux:U32 x) (uk:U32 k) (k16:k<16) :
  Calls Tryz.prog 106 #[.pointer (some ⟨M,0,none⟩),.agg #[.int .i64 97,.int .i64 jt,.int .i64 jf,.int .i64 k]] w fun e w'=>e=.returned (.tuple #[])∧QM w0 w' M KB SB OB UB (.slice po m pcap) ⟨pc,a,cs k.toNat,cs⟩ false vd:=by
 obtain ⟨c0,c1,c2,c3,c4,c5,c6,c7,c8,c9⟩:=h.cells
 obtain ⟨z1,z2,z3,z4,z5⟩:=h.free
 dsimp only at c1 c2 c3
 have lM:=h.m.lt
 have HH:Hid (QM w0 w M KB SB OB UB (.slice po m pcap) ⟨pc,a,x,cs⟩ false vd):=h
 obtain ⟨a0,a1⟩:=ua
 obtain ⟨x0,x1⟩:=ux
 obtain ⟨k0,k1⟩:=uk
 have ck:w.cell? ⟨M,3+k.toNat,none⟩=some (.int .u32 (cs k.toNat)):=h.cs (S:=⟨pc,a,x,cs⟩) (by omega)
 have zk:=h.m.frozen (3+k.toNat)
 clear h
 go_enter Tryz.func106,Tryz.ntmps106
 go_wp2
 go_quiet (fail)
 go_wp2
 go_end0
 exact ⟨rfl,by repeat (first | exact HH.out | refine QM.setX (S:=⟨pc,a,x,cs⟩) ?_ _ | refine QM.drew ?_ | refine QM.drewN ?_ _ | refine QM.allo ?_ _)⟩
set_option maxHeartbeats 1000000 in
theorem tk_1 (w0 w:World) (M KB SB OB UB:Nat) (po:Option Addr) (m pcap:Nat) (p:Nat→Int) (pc:Nat) (a x:Int) (cs:Nat→Int) (vd jt jf k:Int) (h:QM w0 w M KB SB OB UB (.slice po m pcap) ⟨pc,a,x,cs⟩ false vd) (hm:m≤2000) (hpc:pc≤1000) (ua:U32 a) (ux:U32 x) (uk:U32 k) :
  Calls Tryz.prog 106 #[.pointer (some ⟨M,0,none⟩),.agg #[.int .i64 1,.int .i64 jt,.int .i64 jf,.int .i64 k]] w fun e w'=>e=.returned (.tuple #[])∧QM w0 w' M KB SB OB UB (.slice po m pcap) ⟨pc,a,k,cs⟩ false vd:=by
 obtain ⟨c0,c1,c2,c3,c4,c5,c6,c7,c8,c9⟩:=h.cells
 obtain ⟨z1,z2,z3,z4,z5⟩:=h.free
 dsimp only at c1 c2 c3
 have lM:=h.m.lt
 have HH:Hid (QM w0 w M KB SB OB UB (.slice po m pcap) ⟨pc,a,x,cs⟩ false vd):=h
 obtain ⟨a0,a1⟩:=ua
 obtain ⟨x0,x1⟩:=ux
 obtain ⟨k0,k1⟩:=uk
 clear h
 go_enter Tryz.func106,Tryz.ntmps106
 go_wp2
 go_end0
 exact ⟨rfl,by repeat (first | exact HH.out | refine QM.setX (S:=⟨pc,a,x,cs⟩) ?_ _ | refine QM.drew ?_ | refine QM.drewN ?_ _ | refine QM.allo ?_ _)⟩
set_option maxHeartbeats 1000000 in
theorem tk_129 (w0 w:World) (M KB SB OB UB:Nat) (po:Option Addr) (m pcap:Nat) (p:Nat→Int) (pc:Nat) (a x:Int) (cs:Nat→Int) (vd jt jf k:Int) (h:QM w0 w M KB SB OB UB (.slice po m pcap) ⟨pc,a,x,cs⟩ false vd) (hm:m≤2000) (hpc:pc≤1000) (ua:U32 a) (ux:U32 x) (uk:U32 k) :
  Calls Tryz.prog 106 #[.pointer (some ⟨M,0,none⟩),.agg #[.int .i64 129,.int .i64 jt,.int .i64 jf,.int .i64 k]] w fun e w'=>e=.returned (.tuple #[])∧QM w0 w' M KB SB OB UB (.slice po m pcap) ⟨pc,a,m,cs⟩ false vd:=by
 obtain ⟨c0,c1,c2,c3,c4,c5,c6,c7,c8,c9⟩:=h.cells
 obtain ⟨z1,z2,z3,z4,z5⟩:=h.free
 dsimp only at c1 c2 c3
 have lM:=h.m.lt
 have HH:Hid (QM w0 w M KB SB OB UB (.slice po m pcap) ⟨pc,a,x,cs⟩ false vd):=h
 obtain ⟨a0,a1⟩:=ua
 obtain ⟨x0,x1⟩:=ux
 obtain ⟨k0,k1⟩:=uk
 clear h
 go_enter Tryz.func106,Tryz.ntmps106
 go_wp2
 go_end0
 exact ⟨rfl,by repeat (first | exact HH.out | refine QM.setX (S:=⟨pc,a,x,cs⟩) ?_ _ | refine QM.drew ?_ | refine QM.drewN ?_ _ | refine QM.allo ?_ _)⟩
set_option maxHeartbeats 1000000 in
theorem cp_2 (w0 w:World) (M KB SB OB UB:Nat) (po:Option Addr) (m pcap:Nat) (p:Nat→Int) (pc:Nat) (a x:Int) (cs:Nat→Int) (vd jt jf k:Int) (h:QM w0 w M KB SB OB UB (.slice po m pcap) ⟨pc,a,x,cs⟩ false vd) (hm:m≤2000) (hpc:pc≤1000) (ua:U32 a) (ux:U32 x) (uk:U32 k) (k16:k<16) :
  Calls Tryz.prog 107 #[.pointer (some ⟨M,0,none⟩),.agg #[.int .i64 2,.int .i64 jt,.int .i64 jf,.int .i64 k]] w fun e w'=>e=.returned (.tuple #[])∧QM w0 w' M KB SB OB UB (.slice po m pcap) ⟨pc,a,x,upd cs k.toNat a⟩ false vd:=by
 obtain ⟨c0,c1,c2,c3,c4,c5,c6,c7,c8,c9⟩:=h.cells
 obtain ⟨z1,z2,z3,z4,z5⟩:=h.free
 dsimp only at c1 c2 c3
 have lM:=h.m.lt
 have HH:Hid (QM w0 w M KB SB OB UB (.slice po m pcap) ⟨pc,a,x,cs⟩ false vd):=h
 obtain ⟨a0,a1⟩:=ua
 obtain ⟨x0,x1⟩:=ux
 obtain ⟨k0,k1⟩:=uk
 have ck:w.cell? ⟨M,3+k.toNat,none⟩=some (.int .u32 (cs k.toNat)):=h.cs (S:=⟨pc,a,x,cs⟩) (by omega)
 have zk:=h.m.frozen (3+k.toNat)
 clear h
 go_enter Tryz.func107,Tryz.ntmps107
 go_wp2
 go_region
 all_goals go_wp2
 go_end0
 exact ⟨rfl,by repeat (first | exact HH.out | refine QM.setCs (S:=⟨pc,a,x,cs⟩) ?_ _ (by omega) _ | refine QM.drew ?_ | refine QM.drewN ?_ _ | refine QM.allo ?_ _)⟩
set_option maxHeartbeats 1000000 in
theorem cp_3 (w0 w:World) (M KB SB OB UB:Nat) (po:Option Addr) (m pcap:Nat) (p:Nat→Int) (pc:Nat) (a x:Int) (cs:Nat→Int) (vd jt jf k:Int) (h:QM w0 w M KB SB OB UB (.slice po m pcap) ⟨pc,a,x,cs⟩ false vd) (hm:m≤2000) (hpc:pc≤1000) (ua:U32 a) (ux:U32 x) (uk:U32 k) (k16:k<16) :
  Calls Tryz.prog 107 #[.pointer (some ⟨M,0,none⟩),.agg #[.int .i64 3,.int .i64 jt,.int .i64 jf,.int .i64 k]] w fun e w'=>e=.returned (.tuple #[])∧QM w0 w' M KB SB OB UB (.slice po m pcap) ⟨pc,a,x,upd cs k.toNat x⟩ false vd:=by
 obtain ⟨c0,c1,c2,c3,c4,c5,c6,c7,c8,c9⟩:=h.cells
 obtain ⟨z1,z2,z3,z4,z5⟩:=h.free
 dsimp only at c1 c2 c3
 have lM:=h.m.lt
 have HH:Hid (QM w0 w M KB SB OB UB (.slice po m pcap) ⟨pc,a,x,cs⟩ false vd):=h
 obtain ⟨a0,a1⟩:=ua
 obtain ⟨x0,x1⟩:=ux
 obtain ⟨k0,k1⟩:=uk
 have ck:w.cell? ⟨M,3+k.toNat,none⟩=some (.int .u32 (cs k.toNat)):=h.cs (S:=⟨pc,a,x,cs⟩) (by omega)
 have zk:=h.m.frozen (3+k.toNat)
 clear h
 go_enter Tryz.func107,Tryz.ntmps107
 go_wp2
 go_region
 all_goals go_wp2
 go_end0
 exact ⟨rfl,by repeat (first | exact HH.out | refine QM.setCs (S:=⟨pc,a,x,cs⟩) ?_ _ (by omega) _ | refine QM.drew ?_ | refine QM.drewN ?_ _ | refine QM.allo ?_ _)⟩
set_option maxHeartbeats 1000000 in
theorem cp_7 (w0 w:World) (M KB SB OB UB:Nat) (po:Option Addr) (m pcap:Nat) (p:Nat→Int) (pc:Nat) (a x:Int) (cs:Nat→Int) (vd jt jf k:Int) (h:QM w0 w M KB SB OB UB (.slice po m pcap) ⟨pc,a,x,cs⟩ false vd) (hm:m≤2000) (hpc:pc≤1000) (ua:U32 a) (ux:U32 x) (uk:U32 k) :
  Calls Tryz.prog 107 #[.pointer (some ⟨M,0,none⟩),.agg #[.int .i64 7,.int .i64 jt,.int .i64 jf,.int .i64 k]] w fun e w'=>e=.returned (.tuple #[])∧QM w0 w' M KB SB OB UB (.slice po m pcap) ⟨pc,a,a,cs⟩ false vd:=by
 obtain ⟨c0,c1,c2,c3,c4,c5,c6,c7,c8,c9⟩:=h.cells
 obtain ⟨z1,z2,z3,z4,z5⟩:=h.free
 dsimp only at c1 c2 c3
 have lM:=h.m.lt
 have HH:Hid (QM w0 w M KB SB OB UB (.slice po m pcap) ⟨pc,a,x,cs⟩ false vd):=h
 obtain ⟨a0,a1⟩:=ua
 obtain ⟨x0,x1⟩:=ux
 obtain ⟨k0,k1⟩:=uk
 clear h
 go_enter Tryz.func107,Tryz.ntmps107
 go_wp2
 go_end0
 exact ⟨rfl,by repeat (first | exact HH.out | refine QM.setX (S:=⟨pc,a,x,cs⟩) ?_ _ | refine QM.drew ?_ | refine QM.drewN ?_ _ | refine QM.allo ?_ _)⟩
set_option maxHeartbeats 1000000 in
theorem cp_135 (w0 w:World) (M KB SB OB UB:Nat) (po:Option Addr) (m pcap:Nat) (p:Nat→Int) (pc:Nat) (a x:Int) (cs:Nat→Int) (vd jt jf k:Int) (h:QM w0 w M KB SB OB UB (.slice po m pcap) ⟨pc,a,x,cs⟩ false vd) (hm:m≤2000) (hpc:pc≤1000) (ua:U32 a) (ux:U32 x) (uk:U32 k) :
  Calls Tryz.prog 107 #[.pointer (some ⟨M,0,none⟩),.agg #[.int .i64 135,.int .i64 jt,.int .i64 jf,.int .i64 k]] w fun e w'=>e=.returned (.tuple #[])∧QM w0 w' M KB SB OB UB (.slice po m pcap) ⟨pc,x,x,cs⟩ false vd:=by
 obtain ⟨c0,c1,c2,c3,c4,c5,c6,c7,c8,c9⟩:=h.cells
 obtain ⟨z1,z2,z3,z4,z5⟩:=h.free
 dsimp only at c1 c2 c3
 have lM:=h.m.lt
 have HH:Hid (QM w0 w M KB SB OB UB (.slice po m pcap) ⟨pc,a,x,cs⟩ false vd):=h
 obtain ⟨a0,a1⟩:=ua
 obtain ⟨x0,x1⟩:=ux
 obtain ⟨k0,k1⟩:=uk
 clear h
 go_enter Tryz.func107,Tryz.ntmps107
 go_wp2
 go_end0
 exact ⟨rfl,by repeat (first | exact HH.out | refine QM.setA (S:=⟨pc,a,x,cs⟩) ?_ _ | refine QM.drew ?_ | refine QM.drewN ?_ _ | refine QM.allo ?_ _)⟩
set_option maxHeartbeats 1000000 in
theorem gv_6 (w0 w:World) (M KB SB OB UB:Nat) (po:Option Addr) (m pcap:Nat) (p:Nat→Int) (pc:Nat) (a x:Int) (cs:Nat→Int) (vd jt jf k:Int) (h:QM w0 w M KB SB OB UB (.slice po m pcap) ⟨pc,a,x,cs⟩ false vd) (hm:m≤2000) (hpc:pc≤1000) (ua:U32 a) (ux:U32 x) (uk:U32 k) :
  Calls Tryz.prog 110 #[.pointer (some ⟨M,0,none⟩),.agg #[.int .i64 6,.int .i64 jt,.int .i64 jf,.int .i64 k]] w fun e w'=>e=.returned (.tuple #[])∧QM w0 w' M KB SB OB UB (.slice po m pcap) ⟨pc,a,x,cs⟩ true k:=by
 obtain ⟨c0,c1,c2,c3,c4,c5,c6,c7,c8,c9⟩:=h.cells
 obtain ⟨z1,z2,z3,z4,z5⟩:=h.free
 dsimp only at c1 c2 c3
 have lM:=h.m.lt
 have HH:Hid (QM w0 w M KB SB OB UB (.slice po m pcap) ⟨pc,a,x,cs⟩ false vd):=h
 obtain ⟨a0,a1⟩:=ua
 obtain ⟨x0,x1⟩:=ux
 obtain ⟨k0,k1⟩:=uk
 clear h
 go_enter Tryz.func110,Tryz.ntmps110
 go_wp2_with (go_at_call 143;refine (end_any w0 _ M KB SB OB UB (.slice po m pcap) ⟨pc,a,x,cs⟩ false vd k (by repeat (first | exact HH.out | refine QM.drew ?_ | refine QM.drewN ?_ _ | refine QM.allo ?_ _))).mono ?_;rintro e w1 ⟨rfl,h1⟩)
 go_end0
 exact ⟨rfl,h1⟩
set_option maxHeartbeats 1000000 in
theorem gv_22 (w0 w:World) (M KB SB OB UB:Nat) (po:Option Addr) (m pcap:Nat) (p:Nat→Int) (pc:Nat) (a x:Int) (cs:Nat→Int) (vd jt jf k:Int) (h:QM w0 w M KB SB OB UB (.slice po m pcap) ⟨pc,a,x,cs⟩ false vd) (hm:m≤2000) (hpc:pc≤1000) (ua:U32 a) (ux:U32 x) (uk:U32 k) :
  Calls Tryz.prog 110 #[.pointer (some ⟨M,0,none⟩),.agg #[.int .i64 22,.int .i64 jt,.int .i64 jf,.int .i64 k]] w fun e w'=>e=.returned (.tuple #[])∧QM w0 w' M KB SB OB UB (.slice po m pcap) ⟨pc,a,x,cs⟩ true a:=by
 obtain ⟨c0,c1,c2,c3,c4,c5,c6,c7,c8,c9⟩:=h.cells
 obtain ⟨z1,z2,z3,z4,z5⟩:=h.free
 dsimp only at c1 c2 c3
 have lM:=h.m.lt
 have HH:Hid (QM w0 w M KB SB OB UB (.slice po m pcap) ⟨pc,a,x,cs⟩ false vd):=h
 obtain ⟨a0,a1⟩:=ua
 obtain ⟨x0,x1⟩:=ux
 obtain ⟨k0,k1⟩:=uk
 clear h
 go_enter Tryz.func110,Tryz.ntmps110
 go_wp2_with (go_at_call 143;refine (end_any w0 _ M KB SB OB UB (.slice po m pcap) ⟨pc,a,x,cs⟩ false vd a (by repeat (first | exact HH.out | refine QM.drew ?_ | refine QM.drewN ?_ _ | refine QM.allo ?_ _))).mono ?_;rintro e w1 ⟨rfl,h1⟩)
 go_end0
 exact ⟨rfl,h1⟩
end Go.Proofs.YthbcfepbkkbjiaaGreatDoor
