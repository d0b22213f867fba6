import Derived.Test.YthbcfepbkkbjiaaGreatDoorIRB
set_option linter.unusedSimpArgs false
set_option linter.unusedVariables false
set_option maxRecDepth 100000
namespace Go.Proofs.YthbcfepbkkbjiaaGreatDoor
open Go.RowKit
theorem and_lo {v:Int} (h:0≤v∧v≤255):bits .and .u32 v 15=v%16:=by
 obtain ⟨n,rfl⟩:∃ n:Nat,v=n:=⟨v.toNat,by omega⟩
 rw [show (15:Int)=((15:Nat):Int) from rfl,(and_nat n 15 (by omega) (by decide)).1,show 15=2 ^ 4-1 from rfl,Nat.and_two_pow_sub_one_eq_mod]
 omega
theorem nib {v:Int} (h:0≤v∧v≤255):4*bits .and .u32 v 15=v%16*4:=by rw [and_lo h];omega
set_option maxHeartbeats 1000000 in
theorem ld_32y (w0 w:World) (M KB SB OB UB:Nat) (po:Option Addr) (m pcap:Nat) (p:Nat→Int) (pc:Nat) (a x:Int) (cs:Nat→Int) (vd jt jf k:Int) (h:QM w0 w M KB SB OB UB (.slice po m pcap) ⟨pc,a,x,cs⟩ false vd) (hm:m≤2000) (hpc:pc≤1000) (ua:U32 a) (ux:U32 x) (uk:U32 k) (hmc:m≤pcap) (hp:Oct p) (hsrc:Src w0 .u8 po m p) (hq:k.toNat+4≤m) :
  Calls Tryz.prog 105 #[.pointer (some ⟨M,0,none⟩),.agg #[.int .i64 32,.int .i64 jt,.int .i64 jf,.int .i64 k]] w fun e w'=>e=.returned (.tuple #[])∧QM w0 w' M KB SB OB UB (.slice po m pcap) ⟨pc,be p k.toNat 4,x,cs⟩ false vd:=by
 obtain ⟨c0,c1,c2,c3,c4,c5,c6,c7,c8,c9⟩:=h.cells
 obtain ⟨z1,z2,z3,z4,z5⟩:=h.free
 dsimp only at c1 c2 c3
 have lM:=h.m.lt
 have HH:Hid (QM w0 w M KB SB OB UB (.slice po m pcap) ⟨pc,a,x,cs⟩ false vd):=h
 obtain ⟨a0,a1⟩:=ua
 obtain ⟨x0,x1⟩:=ux
 obtain ⟨k0,k1⟩:=uk
 have HA:Hid (∀ w',QM w0 w' M KB SB OB UB (.slice po m pcap) ⟨pc,a,x,cs⟩ false vd→Calls Tryz.prog 140 #[.pointer (some ⟨M,0,none⟩),.int .i64 k,.int .i64 32] w' fun e w''=>e=.returned (.int .u32 (be p k.toNat 4))∧QM w0 w'' M KB SB OB UB (.slice po m pcap) ⟨pc,a,x,cs⟩ false vd):=fun w' h'=>qbytes_ok w0 w' M KB SB OB UB po m pcap p _ false vd 32 k 4 k.toNat h' rfl (Or.inr (Or.inr (Or.inr rfl))) (by omega) hm hmc hp hsrc (by omega) hq
 generalize be p k.toNat 4=V at *
 clear hq hp hsrc
 clear h
 go_enter Tryz.func105,Tryz.ntmps105
 go_wp2_with (go_at_call 140;refine (HA.out _ (by repeat (first | exact HH.out | refine QM.drew ?_ | refine QM.drewN ?_ _ | refine QM.allo ?_ _))).mono ?_;rintro e w1 ⟨rfl,h1⟩;obtain ⟨d0,d1,d2,d3,d4,d5,d6,d7,d8,d9⟩:=h1.cells;obtain ⟨y1,y2,y3,y4,y5⟩:=h1.free;have l1:=h1.m.lt)
 go_end0
 exact ⟨rfl,h1.setA _⟩
set_option maxHeartbeats 1000000 in
theorem ld_32n (w0 w:World) (M KB SB OB UB:Nat) (po:Option Addr) (m pcap:Nat) (p:Nat→Int) (pc:Nat) (a x:Int) (cs:Nat→Int) (vd jt jf k:Int) (h:QM w0 w M KB SB OB UB (.slice po m pcap) ⟨pc,a,x,cs⟩ false vd) (hm:m≤2000) (hpc:pc≤1000) (ua:U32 a) (ux:U32 x) (uk:U32 k) (hq:¬ k.toNat+4≤m) :
  Calls Tryz.prog 105 #[.pointer (some ⟨M,0,none⟩),.agg #[.int .i64 32,.int .i64 jt,.int .i64 jf,.int .i64 k]] w fun e w'=>e=.returned (.tuple #[])∧QM w0 w' M KB SB OB UB (.slice po m pcap) ⟨pc,0,x,cs⟩ true 0:=by
 obtain ⟨c0,c1,c2,c3,c4,c5,c6,c7,c8,c9⟩:=h.cells
 obtain ⟨z1,z2,z3,z4,z5⟩:=h.free
 dsimp only at c1 c2 c3
 have lM:=h.m.lt
 have HH:Hid (QM w0 w M KB SB OB UB (.slice po m pcap) ⟨pc,a,x,cs⟩ false vd):=h
 obtain ⟨a0,a1⟩:=ua
 obtain ⟨x0,x1⟩:=ux
 obtain ⟨k0,k1⟩:=uk
 have HA:Hid (∀ w',QM w0 w' M KB SB OB UB (.slice po m pcap) ⟨pc,a,x,cs⟩ false vd→Calls Tryz.prog 140 #[.pointer (some ⟨M,0,none⟩),.int .i64 k,.int .i64 32] w' fun e w''=>e=.returned (.int .u32 0)∧QM w0 w'' M KB SB OB UB (.slice po m pcap) ⟨pc,a,x,cs⟩ true 0):=fun w' h'=>qbytes_no w0 w' M KB SB OB UB po m pcap p _ false vd 32 k 4 k.toNat h' rfl (by omega) hm (by omega) (by omega) hq
 clear hq
 clear h
 go_enter Tryz.func105,Tryz.ntmps105
 go_wp2_with (go_at_call 140;refine (HA.out _ (by repeat (first | exact HH.out | refine QM.drew ?_ | refine QM.drewN ?_ _ | refine QM.allo ?_ _))).mono ?_;rintro e w1 ⟨rfl,h1⟩;obtain ⟨d0,d1,d2,d3,d4,d5,d6,d7,d8,d9⟩:=h1.cells;obtain ⟨y1,y2,y3,y4,y5⟩:=h1.free;have l1:=h1.m.lt)
 go_end0
 exact ⟨rfl,h1.setA _⟩
set_option maxHeartbeats 1000000 in
theorem ld_40y (w0 w:World) (M KB SB OB UB:Nat) (po:Option Addr) (m pcap:Nat) (p:Nat→Int) (pc:Nat) (a x:Int) (cs:Nat→Int) (vd jt jf k:Int) (h:QM w0 w M KB SB OB UB (.slice po m pcap) ⟨pc,a,x,cs⟩ false vd) (hm:m≤2000) (hpc:pc≤1000) (ua:U32 a) (ux:U32 x) (uk:U32 k) (hmc:m≤pcap) (hp:Oct p) (hsrc:Src w0 .u8 po m p) (hq:k.toNat+2≤m) :
  Calls Tryz.prog 105 #[.pointer (some ⟨M,0,none⟩),.agg #[.int .i64 40,.int .i64 jt,.int .i64 jf,.int .i64 k]] w fun e w'=>e=.returned (.tuple #[])∧QM w0 w' M KB SB OB UB (.slice po m pcap) ⟨pc,be p k.toNat 2,x,cs⟩ false vd:=by
 obtain ⟨c0,c1,c2,c3,c4,c5,c6,c7,c8,c9⟩:=h.cells
 obtain ⟨z1,z2,z3,z4,z5⟩:=h.free
 dsimp only at c1 c2 c3
 have lM:=h.m.lt
 have HH:Hid (QM w0 w M KB SB OB UB (.slice po m pcap) ⟨pc,a,x,cs⟩ false vd):=h
 obtain ⟨a0,a1⟩:=ua
 obtain ⟨x0,x1⟩:=ux
 obtain ⟨k0,k1⟩:=uk
 have HA:Hid (∀ w',QM w0 w' M KB SB OB UB (.slice po m pcap) ⟨pc,a,x,cs⟩ false vd→Calls Tryz.prog 140 #[.pointer (some ⟨M,0,none⟩),.int .i64 k,.int .i64 40] w' fun e w''=>e=.returned (.int .u32 (be p k.toNat 2))∧QM w0 w'' M KB SB OB UB (.slice po m pcap) ⟨pc,a,x,cs⟩ false vd):=fun w' h'=>qbytes_ok w0 w' M KB SB OB UB po m pcap p _ false vd 40 k 2 k.toNat h' rfl (Or.inr (Or.inr (Or.inl rfl))) (by omega) hm hmc hp hsrc (by omega) hq
 generalize be p k.toNat 2=V at *
 clear hq hp hsrc
 clear h
 go_enter Tryz.func105,Tryz.ntmps105
 go_wp2_with (go_at_call 140;refine (HA.out _ (by repeat (first | exact HH.out | refine QM.drew ?_ | refine QM.drewN ?_ _ | refine QM.allo ?_ _))).mono ?_;rintro e w1 ⟨rfl,h1⟩;obtain ⟨d0,d1,d2,d3,d4,d5,d6,d7,d8,d9⟩:=h1.cells;obtain ⟨y1,y2,y3,y4,y5⟩:=h1.free;have l1:=h1.m.lt)
 go_end0
 exact ⟨rfl,h1.setA _⟩
set_option maxHeartbeats 1000000 in
theorem ld_40n (w0 w:World) (M KB SB OB UB:Nat) (po:Option Addr) (m pcap:Nat) (p:Nat→Int) (pc:Nat) (a x:Int) (cs:Nat→Int) (vd jt jf k:Int) (h:QM w0 w M KB SB OB UB (.slice po m pcap) ⟨pc,a,x,cs⟩ false vd) (hm:m≤2000) (hpc:pc≤1000) (ua:U32 a) (ux:U32 x) (uk:U32 k) (hq:¬ k.toNat+2≤m) :
  Calls Tryz.prog 105 #[.pointer (some ⟨M,0,none⟩),.agg #[.int .i64 40,.int .i64 jt,.int .i64 jf,.int .i64 k]] w fun e w'=>e=.returned (.tuple #[])∧QM w0 w' M KB SB OB UB (.slice po m pcap) ⟨pc,0,x,cs⟩ true 0:=by
 obtain ⟨c0,c1,c2,c3,c4,c5,c6,c7,c8,c9⟩:=h.cells
 obtain ⟨z1,z2,z3,z4,z5⟩:=h.free
 dsimp only at c1 c2 c3
 have lM:=h.m.lt
 have HH:Hid (QM w0 w M KB SB OB UB (.slice po m pcap) ⟨pc,a,x,cs⟩ false vd):=h
 obtain ⟨a0,a1⟩:=ua
 obtain ⟨x0,x1⟩:=ux
 obtain ⟨k0,k1⟩:=uk
 have HA:Hid (∀ w',QM w0 w' M KB SB OB UB (.slice po m pcap) ⟨pc,a,x,cs⟩ false vd→Calls Tryz.prog 140 #[.pointer (some ⟨M,0,none⟩),.int .i64 k,.int .i64 40] w' fun e w''=>e=.returned (.int .u32 0)∧QM w0 w'' M KB SB OB UB (.slice po m pcap) ⟨pc,a,x,cs⟩ true 0):=fun w' h'=>qbytes_no w0 w' M KB SB OB UB po m pcap p _ false vd 40 k 2 k.toNat h' rfl (by omega) hm (by omega) (by omega) hq
 clear hq
 clear h
 go_enter Tryz.func105,Tryz.ntmps105
 go_wp2_with (go_at_call 140;refine (HA.out _ (by repeat (first | exact HH.out | refine QM.drew ?_ | refine QM.drewN ?_ _ | refine QM.allo ?_ _))).mono ?_;rintro e w1 ⟨rfl,h1⟩;obtain ⟨d0,d1,d2,d3,d4,d5,d6,d7,d8,d9⟩:=h1.cells;obtain ⟨y1,y2,y3,y4,y5⟩:=h1.free;have l1:=h1.m.lt)
 go_end0
 exact ⟨rfl,h1.setA _⟩
set_option maxHeartbeats 1000000 in
theorem ld_48y (w0 w:World) (M KB SB OB UB:Nat) (po:Option Addr) (m pcap:Nat) (p:Nat→Int) (pc:Nat) (a x:Int) (cs:Nat→Int) (vd jt jf k:Int) (h:QM w0 w M KB SB OB UB (.slice po m pcap) ⟨pc,a,x,cs⟩ false vd) (hm:m≤2000) (hpc:pc≤1000) (ua:U32 a) (ux:U32 x) (uk:U32 k) (hmc:m≤pcap) (hp:Oct p) (hsrc:Src w0 .u8 po m p) (hq:k.toNat+1≤m) :
  Calls Tryz.prog 105 #[.pointer (some ⟨M,0,none⟩),.agg #[.int .i64 48,.int .i64 jt,.int .i64 jf,.int .i64 k]] w fun e w'=>e=.returned (.tuple #[])∧QM w0 w' M KB SB OB UB (.slice po m pcap) ⟨pc,be p k.toNat 1,x,cs⟩ false vd:=by
 obtain ⟨c0,c1,c2,c3,c4,c5,c6,c7,c8,c9⟩:=h.cells
 obtain ⟨z1,z2,z3,z4,z5⟩:=h.free
 dsimp only at c1 c2 c3
 have lM:=h.m.lt
 have HH:Hid (QM w0 w M KB SB OB UB (.slice po m pcap) ⟨pc,a,x,cs⟩ false vd):=h
 obtain ⟨a0,a1⟩:=ua
 obtain ⟨x0,x1⟩:=ux
 obtain ⟨k0,k1⟩:=uk
 have HA:Hid (∀ w',QM w0 w' M KB SB OB UB (.slice po m pcap) ⟨pc,a,x,cs⟩ false vd→Calls Tryz.prog 140 #[.pointer (some ⟨M,0,none⟩),.int .i64 k,.int .i64 48] w' fun e w''=>e=.returned (.int .u32 (be p k.toNat 1))∧QM w0 w'' M KB SB OB UB (.slice po m pcap) ⟨pc,a,x,cs⟩ false vd):=fun w' h'=>qbytes_ok w0 w' M KB SB OB UB po m pcap p _ false vd 48 k 1 k.toNat h' rfl (Or.inr (Or.inl rfl)) (by omega) hm hmc hp hsrc (by omega) hq
 generalize be p k.toNat 1=V at *
 clear hq hp hsrc
 clear h
 go_enter Tryz.func105,Tryz.ntmps105
 go_wp2_with (go_at_call 140;refine (HA.out _ (by repeat (first | exact HH.out | refine QM.drew ?_ | refine QM.drewN ?_ _ | refine QM.allo ?_ _))).mono ?_;rintro e w1 ⟨rfl,h1⟩;obtain ⟨d0,d1,d2,d3,d4,d5,d6,d7,d8,d9⟩:=h1.cells;obtain ⟨y1,y2,y3,y4,y5⟩:=h1.free;have l1:=h1.m.lt)
 go_end0
 exact ⟨rfl,h1.setA _⟩
set_option maxHeartbeats 1000000 in
theorem ld_48n (w0 w:World) (M KB SB OB UB:Nat) (po:Option Addr) (m pcap:Nat) (p:Nat→Int) (pc:Nat) (a x:Int) (cs:Nat→Int) (vd jt jf k:Int) (h:QM w0 w M KB SB OB UB (.slice po m pcap) ⟨pc,a,x,cs⟩ false vd) (hm:m≤2000) (hpc:pc≤1000) (ua:U32 a) (ux:U32 x) (uk:U32 k) (hq:¬ k.toNat+1≤m) :
  Calls Tryz.prog 105 #[.pointer (some ⟨M,0,none⟩),.agg #[.int .i64 48,.int .i64 jt,.int .i64 jf,.int .i64 k]] w fun e w'=>e=.returned (.tuple #[])∧QM w0 w' M KB SB OB UB (.slice po m pcap) ⟨pc,0,x,cs⟩ true 0:=by
 obtain ⟨c0,c1,c2,c3,c4,c5,c6,c7,c8,c9⟩:=h.cells
 obtain ⟨z1,z2,z3,z4,z5⟩:=h.free
 dsimp only at c1 c2 c3
 have lM:=h.m.lt
 have HH:Hid (QM w0 w M KB SB OB UB (.slice po m pcap) ⟨pc,a,x,cs⟩ false vd):=h
 obtain ⟨a0,a1⟩:=ua
 obtain ⟨x0,x1⟩:=ux
 obtain ⟨k0,k1⟩:=uk
 have HA:Hid (∀ w',QM w0 w' M KB SB OB UB (.slice po m pcap) ⟨pc,a,x,cs⟩ false vd→Calls Tryz.prog 140 #[.pointer (some ⟨M,0,none⟩),.int .i64 k,.int .i64 48] w' fun e w''=>e=.returned (.int .u32 0)∧QM w0 w'' M KB SB OB UB (.slice po m pcap) ⟨pc,a,x,cs⟩ true 0):=fun w' h'=>qbytes_no w0 w' M KB SB OB UB po m pcap p _ false vd 48 k 1 k.toNat h' rfl (by omega) hm (by omega) (by omega) hq
 clear hq
 clear h
 go_enter Tryz.func105,Tryz.ntmps105
 go_wp2_with (go_at_call 140;refine (HA.out _ (by repeat (first | exact HH.out | refine QM.drew ?_ | refine QM.drewN ?_ _ | refine QM.allo ?_ _))).mono ?_;rintro e w1 ⟨rfl,h1⟩;obtain ⟨d0,d1,d2,d3,d4,d5,d6,d7,d8,d9⟩:=h1.cells;obtain ⟨y1,y2,y3,y4,y5⟩:=h1.free;have l1:=h1.m.lt)
 go_end0
 exact ⟨rfl,h1.setA _⟩
set_option maxHeartbeats 1000000 in
theorem ld_64y (w0 w:World) (M KB SB OB UB:Nat) (po:Option Addr) (m pcap:Nat) (p:Nat→Int) (pc:Nat) (a x:Int) (cs:Nat→Int) (vd jt jf k:Int) (h:QM w0 w M KB SB OB UB (.slice po m pcap) ⟨pc,a,x,cs⟩ false vd) (hm:m≤2000) (hpc:pc≤1000) (ua:U32 a) (ux:U32 x) (uk:U32 k) (hmc:m≤pcap) (hp:Oct p) (hsrc:Src w0 .u8 po m p) (hq:(k+x).toNat+4≤m) :
  Calls Tryz.prog 105 #[.pointer (some ⟨M,0,none⟩),.agg #[.int .i64 64,.int .i64 jt,.int .i64 jf,.int .i64 k]] w fun e w'=>e=.returned (.tuple #[])∧QM w0 w' M KB SB OB UB (.slice po m pcap) ⟨pc,be p (k+x).toNat 4,x,cs⟩ false vd:=by
 obtain ⟨c0,c1,c2,c3,c4,c5,c6,c7,c8,c9⟩:=h.cells
 obtain ⟨z1,z2,z3,z4,z5⟩:=h.free
 dsimp only at c1 c2 c3
 have lM:=h.m.lt
 have HH:Hid (QM w0 w M KB SB OB UB (.slice po m pcap) ⟨pc,a,x,cs⟩ false vd):=h
 obtain ⟨a0,a1⟩:=ua
 obtain ⟨x0,x1⟩:=ux
 obtain ⟨k0,k1⟩:=uk
 have HA:Hid (∀ w',QM w0 w' M KB SB OB UB (.slice po m pcap) ⟨pc,a,x,cs⟩ false vd→Calls Tryz.prog 140 #[.pointer (some ⟨M,0,none⟩),.int .i64 (k+x),.int .i64 64] w' fun e w''=>e=.returned (.int .u32 (be p (k+x).toNat 4))∧QM w0 w'' M KB SB OB UB (.slice po m pcap) ⟨pc,a,x,cs⟩ false vd):=fun w' h'=>qbytes_ok w0 w' M KB SB OB UB po m pcap p _ false vd 64 (k+x) 4 (k+x).toNat h' rfl (Or.inr (Or.inr (Or.inr rfl))) (by omega) hm hmc hp hsrc (by omega) hq
 generalize be p (k+x).toNat 4=V at *
 clear hq hp hsrc
 clear h
 go_enter Tryz.func105,Tryz.ntmps105
 go_wp2_with (go_at_call 140;refine (HA.out _ (by repeat (first | exact HH.out | refine QM.drew ?_ | refine QM.drewN ?_ _ | refine QM.allo ?_ _))).mono ?_;rintro e w1 ⟨rfl,h1⟩;obtain ⟨d0,d1,d2,d3,d4,d5,d6,d7,d8,d9⟩:=h1.cells;obtain ⟨y1,y2,y3,y4,y5⟩:=h1.free;have l1:=h1.m.lt)
 go_end0
 exact ⟨rfl,h1.setA _⟩
set_option maxHeartbeats 1000000 in
theorem ld_64n (w0 w:World) (M KB SB OB UB:Nat) (po:Option Addr) (m pcap:Nat) (p:Nat→Int) (pc:Nat) (a x:Int) (cs:Nat→Int) (vd jt jf k:Int) (h:QM w0 w M KB SB OB UB (.slice po m pcap) ⟨pc,a,x,cs⟩ false vd) (hm:m≤2000) (hpc:pc≤1000) (ua:U32 a) (ux:U32 x) (uk:U32 k) (hq:¬ (k+x).toNat+4≤m) :
  Calls Tryz.prog 105 #[.pointer (some ⟨M,0,none⟩),.agg #[.int .i64 64,.int .i64 jt,.int .i64 jf,.int .i64 k]] w fun e w'=>e=.returned (.tuple #[])∧QM w0 w' M KB SB OB UB (.slice po m pcap) ⟨pc,0,x,cs⟩ true 0:=by
 obtain ⟨c0,c1,c2,c3,c4,c5,c6,c7,c8,c9⟩:=h.cells
 obtain ⟨z1,z2,z3,z4,z5⟩:=h.free
 dsimp only at c1 c2 c3
 have lM:=h.m.lt
 have HH:Hid (QM w0 w M KB SB OB UB (.slice po m pcap) ⟨pc,a,x,cs⟩ false vd):=h
 obtain ⟨a0,a1⟩:=ua
 obtain ⟨x0,x1⟩:=ux
 obtain ⟨k0,k1⟩:=uk
 have HA:Hid (∀ w',QM w0 w' M KB SB OB UB (.slice po m pcap) ⟨pc,a,x,cs⟩ false vd→Calls Tryz.prog 140 #[.pointer (some ⟨M,0,none⟩),.int .i64 (k+x),.int .i64 64] w' fun e w''=>e=.returned (.int .u32 0)∧QM w0 w'' M KB SB OB UB (.slice po m pcap) ⟨pc,a,x,cs⟩ true 0):=fun w' h'=>qbytes_no w0 w' M KB SB OB UB po m pcap p _ false vd 64 (k+x) 4 (k+x).toNat h' rfl (by omega) hm (by omega) (by omega) hq
 clear hq
 clear h
 go_enter Tryz.func105,Tryz.ntmps105
 go_wp2_with (go_at_call 140;refine (HA.out _ (by repeat (first | exact HH.out | refine QM.drew ?_ | refine QM.drewN ?_ _ | refine QM.allo ?_ _))).mono ?_;rintro e w1 ⟨rfl,h1⟩;obtain ⟨d0,d1,d2,d3,d4,d5,d6,d7,d8,d9⟩:=h1.cells;obtain ⟨y1,y2,y3,y4,y5⟩:=h1.free;have l1:=h1.m.lt)
 go_end0
 exact ⟨rfl,h1.setA _⟩
set_option maxHeartbeats 1000000 in
theorem ld_72y (w0 w:World) (M KB SB OB UB:Nat) (po:Option Addr) (m pcap:Nat) (p:Nat→Int) (pc:Nat) (a x:Int) (cs:Nat→Int) (vd jt jf k:Int) (h:QM w0 w M KB SB OB UB (.slice po m pcap) ⟨pc,a,x,cs⟩ false vd) (hm:m≤2000) (hpc:pc≤1000) (ua:U32 a) (ux:U32 x) (uk:U32 k) (hmc:m≤pcap) (hp:Oct p) (hsrc:Src w0 .u8 po m p) (hq:(k+x).toNat+2≤m) :
  Calls Tryz.prog 105 #[.pointer (some ⟨M,0,none⟩),.agg #[.int .i64 72,.int .i64 jt,.int .i64 jf,.int .i64 k]] w fun e w'=>e=.returned (.tuple #[])∧QM w0 w' M KB SB OB UB (.slice po m pcap) ⟨pc,be p (k+x).toNat 2,x,cs⟩ false vd:=by
 obtain ⟨c0,c1,c2,c3,c4,c5,c6,c7,c8,c9⟩:=h.cells
 obtain ⟨z1,z2,z3,z4,z5⟩:=h.free
 dsimp only at c1 c2 c3
 have lM:=h.m.lt
 have HH:Hid (QM w0 w M KB SB OB UB (.slice po m pcap) ⟨pc,a,x,cs⟩ false vd):=h
 obtain ⟨a0,a1⟩:=ua
 obtain ⟨x0,x1⟩:=ux
 obtain ⟨k0,k1⟩:=uk
 have HA:Hid (∀ w',QM w0 w' M KB SB OB UB (.slice po m pcap) ⟨pc,a,x,cs⟩ false vd→Calls Tryz.prog 140 #[.pointer (some ⟨M,0,none⟩),.int .i64 (k+x),.int .i64 72] w' fun e w''=>e=.returned (.int .u32 (be p (k+x).toNat 2))∧QM w0 w'' M KB SB OB UB (.slice po m pcap) ⟨pc,a,x,cs⟩ false vd):=fun w' h'=>qbytes_ok w0 w' M KB SB OB UB po m pcap p _ false vd 72 (k+x) 2 (k+x).toNat h' rfl (Or.inr (Or.inr (Or.inl rfl))) (by omega) hm hmc hp hsrc (by omega) hq
 generalize be p (k+x).toNat 2=V at *
 clear hq hp hsrc
 clear h
 go_enter Tryz.func105,Tryz.ntmps105
 go_wp2_with (go_at_call 140;refine (HA.out _ (by repeat (first | exact HH.out | refine QM.drew ?_ | refine QM.drewN ?_ _ | refine QM.allo ?_ _))).mono ?_;rintro e w1 ⟨rfl,h1⟩;obtain ⟨d0,d1,d2,d3,d4,d5,d6,d7,d8,d9⟩:=h1.cells;obtain ⟨y1,y2,y3,y4,y5⟩:=h1.free;have l1:=h1.m.lt)
 go_end0
 exact ⟨rfl,h1.setA _⟩
set_option maxHeartbeats 1000000 in
theorem ld_72n (w0 w:World) (M KB SB OB UB:Nat) (po:Option Addr) (m pcap:Nat) (p:Nat→Int) (pc:Nat) (a x:Int) (cs:Nat→Int) (vd jt jf k:Int) (h:QM w0 w M KB SB OB UB (.slice po m pcap) ⟨pc,a,x,cs⟩ false vd) (hm:m≤2000) (hpc:pc≤1000) (ua:U32 a) (ux:U32 x) (uk:U32 k) (hq:¬ (k+x).toNat+2≤m) :
  Calls Tryz.prog 105 #[.pointer (some ⟨M,0,none⟩),.agg #[.int .i64 72,.int .i64 jt,.int .i64 jf,.int .i64 k]] w fun e w'=>e=.returned (.tuple #[])∧QM w0 w' M KB SB OB UB (.slice po m pcap) ⟨pc,0,x,cs⟩ true 0:=by
 obtain ⟨c0,c1,c2,c3,c4,c5,c6,c7,c8,c9⟩:=h.cells
 obtain ⟨z1,z2,z3,z4,z5⟩:=h.free
 dsimp only at c1 c2 c3
 have lM:=h.m.lt
 have HH:Hid (QM w0 w M KB SB OB UB (.slice po m pcap) ⟨pc,a,x,cs⟩ false vd):=h
 obtain ⟨a0,a1⟩:=ua
 obtain ⟨x0,x1⟩:=ux
 obtain ⟨k0,k1⟩:=uk
 have HA:Hid (∀ w',QM w0 w' M KB SB OB UB (.slice po m pcap) ⟨pc,a,x,cs⟩ false vd→Calls Tryz.prog 140 #[.pointer (some ⟨M,0,none⟩),.int .i64 (k+x),.int .i64 72] w' fun e w''=>e=.returned (.int .u32 0)∧QM w0 w'' M KB SB OB UB (.slice po m pcap) ⟨pc,a,x,cs⟩ true 0):=fun w' h'=>qbytes_no w0 w' M KB SB OB UB po m pcap p _ false vd 72 (k+x) 2 (k+x).toNat h' rfl (by omega) hm (by omega) (by omega) hq
 clear hq
 clear h
 go_enter Tryz.func105,Tryz.ntmps105
 go_wp2_with (go_at_call 140;refine (HA.out _ (by repeat (first | exact HH.out | refine QM.drew ?_ | refine QM.drewN ?_ _ | refine QM.allo ?_ _))).mono ?_;rintro e w1 ⟨rfl,h1⟩;obtain ⟨d0,d1,d2,d3,d4,d5,d6,d7,d8,d9⟩:=h1.cells;obtain ⟨y1,y2,y3,y4,y5⟩:=h1.free;have l1:=h1.m.lt)
 go_end0
 exact ⟨rfl,h1.setA _⟩
set_option maxHeartbeats 1000000 in
theorem ld_80y (w0 w:World) (M KB SB OB UB:Nat) (po:Option Addr) (m pcap:Nat) (p:Nat→Int) (pc:Nat) (a x:Int) (cs:Nat→Int) (vd jt jf k:Int) (h:QM w0 w M KB SB OB UB (.slice po m pcap) ⟨pc,a,x,cs⟩ false vd) (hm:m≤2000) (hpc:pc≤1000) (ua:U32 a) (ux:U32 x) (uk:U32 k) (hmc:m≤pcap) (hp:Oct p) (hsrc:Src w0 .u8 po m p) (hq:(k+x).toNat+1≤m) :
  Calls Tryz.prog 105 #[.pointer (some ⟨M,0,none⟩),.agg #[.int .i64 80,.int .i64 jt,.int .i64 jf,.int .i64 k]] w fun e w'=>e=.returned (.tuple #[])∧QM w0 w' M KB SB OB UB (.slice po m pcap) ⟨pc,be p (k+x).toNat 1,x,cs⟩ false vd:=by
 obtain ⟨c0,c1,c2,c3,c4,c5,c6,c7,c8,c9⟩:=h.cells
 obtain ⟨z1,z2,z3,z4,z5⟩:=h.free
 dsimp only at c1 c2 c3
 have lM:=h.m.lt
 have HH:Hid (QM w0 w M KB SB OB UB (.slice po m pcap) ⟨pc,a,x,cs⟩ false vd):=h
 obtain ⟨a0,a1⟩:=ua
 obtain ⟨x0,x1⟩:=ux
 obtain ⟨k0,k1⟩:=uk
 have HA:Hid (∀ w',QM w0 w' M KB SB OB UB (.slice po m pcap) ⟨pc,a,x,cs⟩ false vd→Calls Tryz.prog 140 #[.pointer (some ⟨M,0,none⟩),.int .i64 (k+x),.int .i64 80] w' fun e w''=>e=.returned (.int .u32 (be p (k+x).toNat 1))∧QM w0 w'' M KB SB OB UB (.slice po m pcap) ⟨pc,a,x,cs⟩ false vd):=fun w' h'=>qbytes_ok w0 w' M KB SB OB UB po m pcap p _ false vd 80 (k+x) 1 (k+x).toNat h' rfl (Or.inr (Or.inl rfl)) (by omega) hm hmc hp hsrc (by omega) hq
 generalize be p (k+x).toNat 1=V at *
 clear hq hp hsrc
 clear h
 go_enter Tryz.func105,Tryz.ntmps105
 go_wp2_with (go_at_call 140;refine (HA.out _ (by repeat (first | exact HH.out | refine QM.drew ?_ | refine QM.drewN ?_ _ | refine QM.allo ?_ _))).mono ?_;rintro e w1 ⟨rfl,h1⟩;obtain ⟨d0,d1,d2,d3,d4,d5,d6,d7,d8,d9⟩:=h1.cells;obtain ⟨y1,y2,y3,y4,y5⟩:=h1.free;have l1:=h1.m.lt)
 go_end0
 exact ⟨rfl,h1.setA _⟩
set_option maxHeartbeats 1000000 in
theorem ld_80n (w0 w:World) (M KB SB OB UB:Nat) (po:Option Addr) (m pcap:Nat) (p:Nat→Int) (pc:Nat) (a x:Int) (cs:Nat→Int) (vd jt jf k:Int) (h:QM w0 w M KB SB OB UB (.slice po m pcap) ⟨pc,a,x,cs⟩ false vd) (hm:m≤2000) (hpc:pc≤1000) (ua:U32 a) (ux:U32 x) (uk:U32 k) (hq:¬ (k+x).toNat+1≤m) :
  Calls Tryz.prog 105 #[.pointer (some ⟨M,0,none⟩),.agg #[.int .i64 80,.int .i64 jt,.int .i64 jf,.int .i64 k]] w fun e w'=>e=.returned (.tuple #[])∧QM w0 w' M KB SB OB UB (.slice po m pcap) ⟨pc,0,x,cs⟩ true 0:=by
 obtain ⟨c0,c1,c2,c3,c4,c5,c6,c7,c8,c9⟩:=h.cells
 obtain ⟨z1,z2,z3,z4,z5⟩:=h.free
 dsimp only at c1 c2 c3
 have lM:=h.m.lt
 have HH:Hid (QM w0 w M KB SB OB UB (.slice po m pcap) ⟨pc,a,x,cs⟩ false vd):=h
 obtain ⟨a0,a1⟩:=ua
 obtain ⟨x0,x1⟩:=ux
 obtain ⟨k0,k1⟩:=uk
 have HA:Hid (∀ w',QM w0 w' M KB SB OB UB (.slice po m pcap) ⟨pc,a,x,cs⟩ false vd→Calls Tryz.prog 140 #[.pointer (some ⟨M,0,none⟩),.int .i64 (k+x),.int .i64 80] w' fun e w''=>e=.returned (.int .u32 0)∧QM w0 w'' M KB SB OB UB (.slice po m pcap) ⟨pc,a,x,cs⟩ true 0):=fun w' h'=>qbytes_no w0 w' M KB SB OB UB po m pcap p _ false vd 80 (k+x) 1 (k+x).toNat h' rfl (by omega) hm (by omega) (by omega) hq
 clear hq
 clear h
 go_enter Tryz.func105,Tryz.ntmps105
 go_wp2_with (go_at_call 140;refine (HA.out _ (by repeat (first | exact HH.out | refine QM.drew ?_ | refine QM.drewN ?_ _ | refine QM.allo ?_ _))).mono ?_;rintro e w1 ⟨rfl,h1⟩;obtain ⟨d0,d1,d2,d3,d4,d5,d6,d7,d8,d9⟩:=h1.cells;obtain ⟨y1,y2,y3,y4,y5⟩:=h1.free;have l1:=h1.m.lt)
 go_end0
 exact ⟨rfl,h1.setA _⟩
set_option maxHeartbeats 1000000 in
theorem ld_177y (w0 w:World) (M KB SB OB UB:Nat) (po:Option Addr) (m pcap:Nat) (p:Nat→Int) (pc:Nat) (a x:Int) (cs:Nat→Int) (vd jt jf k:Int) (h:QM w0 w M KB SB OB UB (.slice po m pcap) ⟨pc,a,x,cs⟩ false vd) (hm:m≤2000) (hpc:pc≤1000) (ua:U32 a) (ux:U32 x) (uk:U32 k) (hmc:m≤pcap) (hp:Oct p) (hsrc:Src w0 .u8 po m p) (hq:k.toNat+1≤m) :
  Calls Tryz.prog 105 #[.pointer (some ⟨M,0,none⟩),.agg #[.int .i64 177,.int .i64 jt,.int .i64 jf,.int .i64 k]] w fun e w'=>e=.returned (.tuple #[])∧QM w0 w' M KB SB OB UB (.slice po m pcap) ⟨pc,a,p k.toNat%16*4,cs⟩ false vd:=by
 obtain ⟨c0,c1,c2,c3,c4,c5,c6,c7,c8,c9⟩:=h.cells
 obtain ⟨z1,z2,z3,z4,z5⟩:=h.free
 dsimp only at c1 c2 c3
 have lM:=h.m.lt
 have HH:Hid (QM w0 w M KB SB OB UB (.slice po m pcap) ⟨pc,a,x,cs⟩ false vd):=h
 obtain ⟨a0,a1⟩:=ua
 obtain ⟨x0,x1⟩:=ux
 obtain ⟨k0,k1⟩:=uk
 obtain ⟨V,hV⟩:∃ V,V=p k.toNat:=⟨_,rfl⟩
 have hV2:0≤V∧V≤255:=by rw [hV];exact hp _
 have HA:Hid (∀ w',QM w0 w' M KB SB OB UB (.slice po m pcap) ⟨pc,a,x,cs⟩ false vd→Calls Tryz.prog 140 #[.pointer (some ⟨M,0,none⟩),.int .i64 k,.int .i64 177] w' fun e w''=>e=.returned (.int .u32 V)∧QM w0 w'' M KB SB OB UB (.slice po m pcap) ⟨pc,a,x,cs⟩ false vd):=fun w' h'=>by have:=qbytes_ok w0 w' M KB SB OB UB po m pcap p _ false vd 177 k 1 k.toNat h' rfl (Or.inr (Or.inl rfl)) (by omega) hm hmc hp hsrc (by omega) hq;rwa [be_one,← hV] at this
 rw [← hV]
 have hA:=nib hV2
 have HB:Hid _:=hA
 have n0:0≤bits .and .u32 V 15:=by rw [and_lo hV2];omega
 have n1:bits .and .u32 V 15≤15:=by rw [and_lo hV2];omega
 clear hq hp hsrc hV hA
 clear h
 go_enter Tryz.func105,Tryz.ntmps105
 go_wp2_with (go_at_call 140;refine (HA.out _ (by repeat (first | exact HH.out | refine QM.drew ?_ | refine QM.drewN ?_ _ | refine QM.allo ?_ _))).mono ?_;rintro e w1 ⟨rfl,h1⟩;obtain ⟨d0,d1,d2,d3,d4,d5,d6,d7,d8,d9⟩:=h1.cells;obtain ⟨y1,y2,y3,y4,y5⟩:=h1.free;have l1:=h1.m.lt)
 go_end0
 have h2:=h1.setX (4*bits .and .u32 V 15)
 exact ⟨rfl,by rw [show (⟨pc,a,V%16*4,cs⟩:Flt)=⟨pc,a,4*bits .and .u32 V 15,cs⟩ by rw [HB.out]];exact h2⟩
set_option maxHeartbeats 1000000 in
theorem ld_177n (w0 w:World) (M KB SB OB UB:Nat) (po:Option Addr) (m pcap:Nat) (p:Nat→Int) (pc:Nat) (a x:Int) (cs:Nat→Int) (vd jt jf k:Int) (h:QM w0 w M KB SB OB UB (.slice po m pcap) ⟨pc,a,x,cs⟩ false vd) (hm:m≤2000) (hpc:pc≤1000) (ua:U32 a) (ux:U32 x) (uk:U32 k) (hq:¬ k.toNat+1≤m) :
  Calls Tryz.prog 105 #[.pointer (some ⟨M,0,none⟩),.agg #[.int .i64 177,.int .i64 jt,.int .i64 jf,.int .i64 k]] w fun e w'=>e=.returned (.tuple #[])∧QM w0 w' M KB SB OB UB (.slice po m pcap) ⟨pc,a,0,cs⟩ true 0:=by
 obtain ⟨c0,c1,c2,c3,c4,c5,c6,c7,c8,c9⟩:=h.cells
 obtain ⟨z1,z2,z3,z4,z5⟩:=h.free
 dsimp only at c1 c2 c3
 have lM:=h.m.lt
 have HH:Hid (QM w0 w M KB SB OB UB (.slice po m pcap) ⟨pc,a,x,cs⟩ false vd):=h
 obtain ⟨a0,a1⟩:=ua
 obtain ⟨x0,x1⟩:=ux
 obtain ⟨k0,k1⟩:=uk
 have HA:Hid (∀ w',QM w0 w' M KB SB OB UB (.slice po m pcap) ⟨pc,a,x,cs⟩ false vd→Calls Tryz.prog 140 #[.pointer (some ⟨M,0,none⟩),.int .i64 k,.int .i64 177] w' fun e w''=>e=.returned (.int .u32 0)∧QM w0 w'' M KB SB OB UB (.slice po m pcap) ⟨pc,a,x,cs⟩ true 0):=fun w' h'=>qbytes_no w0 w' M KB SB OB UB po m pcap p _ false vd 177 k 1 k.toNat h' rfl (by omega) hm (by omega) (by omega) hq
 clear hq
 clear h
 go_enter Tryz.func105,Tryz.ntmps105
 go_wp2_with (go_at_call 140;refine (HA.out _ (by repeat (first | exact HH.out | refine QM.drew ?_ | refine QM.drewN ?_ _ | refine QM.allo ?_ _))).mono ?_;rintro e w1 ⟨rfl,h1⟩;obtain ⟨d0,d1,d2,d3,d4,d5,d6,d7,d8,d9⟩:=h1.cells;obtain ⟨y1,y2,y3,y4,y5⟩:=h1.free;have l1:=h1.m.lt)
 go_end0
 have h2:=h1.setX (4*bits .and .u32 0 15%4294967296)
 exact ⟨rfl,by rw [show (⟨pc,a,0,cs⟩:Flt)=⟨pc,a,4*bits .and .u32 0 15%4294967296,cs⟩ by rw [show 4*bits .and .u32 0 15%4294967296=0 by decide]];exact h2⟩
end Go.Proofs.YthbcfepbkkbjiaaGreatDoor
