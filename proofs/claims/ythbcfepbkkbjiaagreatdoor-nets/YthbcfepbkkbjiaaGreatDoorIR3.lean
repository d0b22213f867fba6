import Derived.Test.YthbcfepbkkbjiaaGreatDoorI9
set_option linter.unusedVariables false
set_option maxRecDepth 100000
namespace Go.Proofs.YthbcfepbkkbjiaaGreatDoor
open Go.RowKit
set_option maxHeartbeats 2000000 in
theorem rst_9f (w0 w:World) (T CB lb loff n lc:Nat) (q:Nat→Int) (po:Option Addr) (m pcap:Nat) (p:Nat→Int) (S:Flt) (h:Fsp w0 w T CB lb loff n q po m p S) (hk:(kd (q (4*S.pc))).kind=9) (hx:(kd (q (4*S.pc))).x=false) :
  Calls Tryz.prog 75 #[.pointer (some ⟨T,0,none⟩),.slice (some ⟨lb,loff,none⟩) n lc,.slice po m pcap] w fun e w'=>e=.returned (.tuple #[.int .i64 0,.bool false])∧RS w0 w' T CB ⟨S.pc+1,(-S.a)%4294967296,S.x,S.cs⟩:=by
 obtain ⟨pc,a,x,cs⟩:=S
 obtain ⟨hn,hm,good,hp,inv,rs,row,src⟩:=h
 obtain ⟨i1,ua,ux,i4⟩:=inv
 obtain ⟨g1,g2,g3,g4,g5⟩:=good.at i1
 have num:=good.num
 have n1:=num (4*pc+1)
 have n2:=num (4*pc+2)
 have n3:=num (4*pc+3)
 have uk:U32 (q (4*pc+3)):=num_u32 num _
 obtain ⟨r1,r2,r3,r4,r5⟩:=kd_range _ g1
 obtain ⟨⟨c0,c1,c2,c3⟩,z0,z1,z3⟩:=rs.cells
 dsimp only at *
 have a0:=ua.1
 have a1:=ua.2
 have x0:=ux.1
 have x1:=ux.2
 obtain ⟨l0,l1,l2,l3⟩:=(row.keep rs.gr (by simp)).insn i1
 have lT:=rs.m.lt
 have HRS:Hid (RS w0 w T CB ⟨pc,a,x,cs⟩):=rs
 have HK:Hid ((kd (q (4*pc))).kind=9):=hk
 have HX:Hid ((kd (q (4*pc))).x=false):=hx
 clear hx
 clear rs hk good g1 r1 r2 num
 go_enter Tryz.func75,Tryz.ntmps75
 go_wp2_with (go_at_call 48;refine (kind_at _ _).mono ?_;rw [HK.out];rw [HX.out];rintro e w1 ⟨rfl,hg1⟩;obtain ⟨b0,b1,b2,b3⟩:=box_four hg1 (by simp);have H1:=(HRS.out.allo _).keep hg1;obtain ⟨⟨d0,d1,d2,d3⟩,y0,y1,y3⟩:=H1.cells;dsimp only at d0 d1 d3;have l1T:=H1.m.lt;have l1C:=H1.cs.lt;have li:=alloc_lt hg1)
 go_ret2
 exact ⟨rfl,RS.allo ((H1.setPc (pc+1) _ (by omega)).setA _) _⟩
set_option maxHeartbeats 2000000 in
theorem rst_7f (w0 w:World) (T CB lb loff n lc:Nat) (q:Nat→Int) (po:Option Addr) (m pcap:Nat) (p:Nat→Int) (S:Flt) (h:Fsp w0 w T CB lb loff n q po m p S) (hk:(kd (q (4*S.pc))).kind=7) (hx:(kd (q (4*S.pc))).x=false) :
  Calls Tryz.prog 75 #[.pointer (some ⟨T,0,none⟩),.slice (some ⟨lb,loff,none⟩) n lc,.slice po m pcap] w fun e w'=>e=.returned (.tuple #[.int .i64 0,.bool false])∧RS w0 w' T CB ⟨S.pc+1,S.x,S.x,S.cs⟩:=by
 obtain ⟨pc,a,x,cs⟩:=S
 obtain ⟨hn,hm,good,hp,inv,rs,row,src⟩:=h
 obtain ⟨i1,ua,ux,i4⟩:=inv
 obtain ⟨g1,g2,g3,g4,g5⟩:=good.at i1
 have num:=good.num
 have n1:=num (4*pc+1)
 have n2:=num (4*pc+2)
 have n3:=num (4*pc+3)
 have uk:U32 (q (4*pc+3)):=num_u32 num _
 obtain ⟨r1,r2,r3,r4,r5⟩:=kd_range _ g1
 obtain ⟨⟨c0,c1,c2,c3⟩,z0,z1,z3⟩:=rs.cells
 dsimp only at *
 have a0:=ua.1
 have a1:=ua.2
 have x0:=ux.1
 have x1:=ux.2
 obtain ⟨l0,l1,l2,l3⟩:=(row.keep rs.gr (by simp)).insn i1
 have lT:=rs.m.lt
 have HRS:Hid (RS w0 w T CB ⟨pc,a,x,cs⟩):=rs
 have HK:Hid ((kd (q (4*pc))).kind=7):=hk
 have HX:Hid ((kd (q (4*pc))).x=false):=hx
 clear hx
 clear rs hk good g1 r1 r2 num
 go_enter Tryz.func75,Tryz.ntmps75
 go_wp2_with (go_at_call 48;refine (kind_at _ _).mono ?_;rw [HK.out];rw [HX.out];rintro e w1 ⟨rfl,hg1⟩;obtain ⟨b0,b1,b2,b3⟩:=box_four hg1 (by simp);have H1:=(HRS.out.allo _).keep hg1;obtain ⟨⟨d0,d1,d2,d3⟩,y0,y1,y3⟩:=H1.cells;dsimp only at d0 d1 d3;have l1T:=H1.m.lt;have l1C:=H1.cs.lt;have li:=alloc_lt hg1)
 go_ret2
 exact ⟨rfl,RS.allo ((H1.setPc (pc+1) _ (by omega)).setA _) _⟩
set_option maxHeartbeats 2000000 in
theorem rst_12f (w0 w:World) (T CB lb loff n lc:Nat) (q:Nat→Int) (po:Option Addr) (m pcap:Nat) (p:Nat→Int) (S:Flt) (h:Fsp w0 w T CB lb loff n q po m p S) (hk:(kd (q (4*S.pc))).kind=12) (hx:(kd (q (4*S.pc))).x=false) :
  Calls Tryz.prog 75 #[.pointer (some ⟨T,0,none⟩),.slice (some ⟨lb,loff,none⟩) n lc,.slice po m pcap] w fun e w'=>e=.returned (.tuple #[.int .i64 (q (4*S.pc+3)),.bool true])∧w0.grownBy w' none:=by
 obtain ⟨pc,a,x,cs⟩:=S
 obtain ⟨hn,hm,good,hp,inv,rs,row,src⟩:=h
 obtain ⟨i1,ua,ux,i4⟩:=inv
 obtain ⟨g1,g2,g3,g4,g5⟩:=good.at i1
 have num:=good.num
 have n1:=num (4*pc+1)
 have n2:=num (4*pc+2)
 have n3:=num (4*pc+3)
 have uk:U32 (q (4*pc+3)):=num_u32 num _
 obtain ⟨r1,r2,r3,r4,r5⟩:=kd_range _ g1
 obtain ⟨⟨c0,c1,c2,c3⟩,z0,z1,z3⟩:=rs.cells
 dsimp only at *
 have a0:=ua.1
 have a1:=ua.2
 have x0:=ux.1
 have x1:=ux.2
 obtain ⟨l0,l1,l2,l3⟩:=(row.keep rs.gr (by simp)).insn i1
 have lT:=rs.m.lt
 have HRS:Hid (RS w0 w T CB ⟨pc,a,x,cs⟩):=rs
 have HK:Hid ((kd (q (4*pc))).kind=12):=hk
 have HX:Hid ((kd (q (4*pc))).x=false):=hx
 clear hx
 clear rs hk good g1 r1 r2 num
 go_enter Tryz.func75,Tryz.ntmps75
 go_wp2_with (go_at_call 48;refine (kind_at _ _).mono ?_;rw [HK.out];rw [HX.out];rintro e w1 ⟨rfl,hg1⟩;obtain ⟨b0,b1,b2,b3⟩:=box_four hg1 (by simp);have H1:=(HRS.out.allo _).keep hg1;obtain ⟨⟨d0,d1,d2,d3⟩,y0,y1,y3⟩:=H1.cells;dsimp only at d0 d1 d3;have l1T:=H1.m.lt;have l1C:=H1.cs.lt;have li:=alloc_lt hg1)
 go_ret2
 exact ⟨rfl,grown_alloc (H1.setPc (pc+1) _ (by omega)).gr _⟩
set_option maxHeartbeats 2000000 in
theorem rst_10f (w0 w:World) (T CB lb loff n lc:Nat) (q:Nat→Int) (po:Option Addr) (m pcap:Nat) (p:Nat→Int) (S:Flt) (h:Fsp w0 w T CB lb loff n q po m p S) (hk:(kd (q (4*S.pc))).kind=10) (hx:(kd (q (4*S.pc))).x=false) :
  Calls Tryz.prog 75 #[.pointer (some ⟨T,0,none⟩),.slice (some ⟨lb,loff,none⟩) n lc,.slice po m pcap] w fun e w'=>e=.returned (.tuple #[.int .i64 0,.bool false])∧RS w0 w' T CB ⟨S.pc+1+(q (4*S.pc+3)).toNat,S.a,S.x,S.cs⟩:=by
 obtain ⟨pc,a,x,cs⟩:=S
 obtain ⟨hn,hm,good,hp,inv,rs,row,src⟩:=h
 obtain ⟨i1,ua,ux,i4⟩:=inv
 obtain ⟨g1,g2,g3,g4,g5⟩:=good.at i1
 have num:=good.num
 have n1:=num (4*pc+1)
 have n2:=num (4*pc+2)
 have n3:=num (4*pc+3)
 have uk:U32 (q (4*pc+3)):=num_u32 num _
 obtain ⟨r1,r2,r3,r4,r5⟩:=kd_range _ g1
 obtain ⟨⟨c0,c1,c2,c3⟩,z0,z1,z3⟩:=rs.cells
 dsimp only at *
 have a0:=ua.1
 have a1:=ua.2
 have x0:=ux.1
 have x1:=ux.2
 obtain ⟨l0,l1,l2,l3⟩:=(row.keep rs.gr (by simp)).insn i1
 have lT:=rs.m.lt
 have HRS:Hid (RS w0 w T CB ⟨pc,a,x,cs⟩):=rs
 have HK:Hid ((kd (q (4*pc))).kind=10):=hk
 have HX:Hid ((kd (q (4*pc))).x=false):=hx
 clear hx
 have g3:=g3 HK.out
 clear rs hk good g1 r1 r2 num
 go_enter Tryz.func75,Tryz.ntmps75
 go_wp2_with (go_at_call 48;refine (kind_at _ _).mono ?_;rw [HK.out];rw [HX.out];rintro e w1 ⟨rfl,hg1⟩;obtain ⟨b0,b1,b2,b3⟩:=box_four hg1 (by simp);have H1:=(HRS.out.allo _).keep hg1;obtain ⟨⟨d0,d1,d2,d3⟩,y0,y1,y3⟩:=H1.cells;dsimp only at d0 d1 d3;have l1T:=H1.m.lt;have l1C:=H1.cs.lt;have li:=alloc_lt hg1)
 go_region
 all_goals go_wp2
 go_ret2
 exact ⟨rfl,by repeat (first | exact RS.setPc (H1.setPc (pc+1) _ (by omega)) (pc+1+(q (4*pc+3)).toNat) _ (by omega) | refine RS.drew ?_ | refine RS.allo ?_ _ | refine RS.drewN ?_ _ | refine RS.setPc (S:=⟨pc+1,a,x,cs⟩) ?_ (pc+1+(q (4*pc+3)).toNat) _ (by omega) | exact (H1.setPc (pc+1) _ (by omega)))⟩
set_option maxHeartbeats 2000000 in
theorem rst_9t (w0 w:World) (T CB lb loff n lc:Nat) (q:Nat→Int) (po:Option Addr) (m pcap:Nat) (p:Nat→Int) (S:Flt) (h:Fsp w0 w T CB lb loff n q po m p S) (hk:(kd (q (4*S.pc))).kind=9) (hx:(kd (q (4*S.pc))).x=true) :
  Calls Tryz.prog 75 #[.pointer (some ⟨T,0,none⟩),.slice (some ⟨lb,loff,none⟩) n lc,.slice po m pcap] w fun e w'=>e=.returned (.tuple #[.int .i64 0,.bool false])∧RS w0 w' T CB ⟨S.pc+1,(-S.a)%4294967296,S.x,S.cs⟩:=by
 obtain ⟨pc,a,x,cs⟩:=S
 obtain ⟨hn,hm,good,hp,inv,rs,row,src⟩:=h
 obtain ⟨i1,ua,ux,i4⟩:=inv
 obtain ⟨g1,g2,g3,g4,g5⟩:=good.at i1
 have num:=good.num
 have n1:=num (4*pc+1)
 have n2:=num (4*pc+2)
 have n3:=num (4*pc+3)
 have uk:U32 (q (4*pc+3)):=num_u32 num _
 obtain ⟨r1,r2,r3,r4,r5⟩:=kd_range _ g1
 obtain ⟨⟨c0,c1,c2,c3⟩,z0,z1,z3⟩:=rs.cells
 dsimp only at *
 have a0:=ua.1
 have a1:=ua.2
 have x0:=ux.1
 have x1:=ux.2
 obtain ⟨l0,l1,l2,l3⟩:=(row.keep rs.gr (by simp)).insn i1
 have lT:=rs.m.lt
 have HRS:Hid (RS w0 w T CB ⟨pc,a,x,cs⟩):=rs
 have HK:Hid ((kd (q (4*pc))).kind=9):=hk
 have HX:Hid ((kd (q (4*pc))).x=true):=hx
 clear hx
 clear rs hk good g1 r1 r2 num
 go_enter Tryz.func75,Tryz.ntmps75
 go_wp2_with (go_at_call 48;refine (kind_at _ _).mono ?_;rw [HK.out];rw [HX.out];rintro e w1 ⟨rfl,hg1⟩;obtain ⟨b0,b1,b2,b3⟩:=box_four hg1 (by simp);have H1:=(HRS.out.allo _).keep hg1;obtain ⟨⟨d0,d1,d2,d3⟩,y0,y1,y3⟩:=H1.cells;dsimp only at d0 d1 d3;have l1T:=H1.m.lt;have l1C:=H1.cs.lt;have li:=alloc_lt hg1)
 go_ret2
 exact ⟨rfl,RS.allo ((H1.setPc (pc+1) _ (by omega)).setA _) _⟩
set_option maxHeartbeats 2000000 in
theorem rst_7t (w0 w:World) (T CB lb loff n lc:Nat) (q:Nat→Int) (po:Option Addr) (m pcap:Nat) (p:Nat→Int) (S:Flt) (h:Fsp w0 w T CB lb loff n q po m p S) (hk:(kd (q (4*S.pc))).kind=7) (hx:(kd (q (4*S.pc))).x=true) :
  Calls Tryz.prog 75 #[.pointer (some ⟨T,0,none⟩),.slice (some ⟨lb,loff,none⟩) n lc,.slice po m pcap] w fun e w'=>e=.returned (.tuple #[.int .i64 0,.bool false])∧RS w0 w' T CB ⟨S.pc+1,S.a,S.a,S.cs⟩:=by
 obtain ⟨pc,a,x,cs⟩:=S
 obtain ⟨hn,hm,good,hp,inv,rs,row,src⟩:=h
 obtain ⟨i1,ua,ux,i4⟩:=inv
 obtain ⟨g1,g2,g3,g4,g5⟩:=good.at i1
 have num:=good.num
 have n1:=num (4*pc+1)
 have n2:=num (4*pc+2)
 have n3:=num (4*pc+3)
 have uk:U32 (q (4*pc+3)):=num_u32 num _
 obtain ⟨r1,r2,r3,r4,r5⟩:=kd_range _ g1
 obtain ⟨⟨c0,c1,c2,c3⟩,z0,z1,z3⟩:=rs.cells
 dsimp only at *
 have a0:=ua.1
 have a1:=ua.2
 have x0:=ux.1
 have x1:=ux.2
 obtain ⟨l0,l1,l2,l3⟩:=(row.keep rs.gr (by simp)).insn i1
 have lT:=rs.m.lt
 have HRS:Hid (RS w0 w T CB ⟨pc,a,x,cs⟩):=rs
 have HK:Hid ((kd (q (4*pc))).kind=7):=hk
 have HX:Hid ((kd (q (4*pc))).x=true):=hx
 clear hx
 clear rs hk good g1 r1 r2 num
 go_enter Tryz.func75,Tryz.ntmps75
 go_wp2_with (go_at_call 48;refine (kind_at _ _).mono ?_;rw [HK.out];rw [HX.out];rintro e w1 ⟨rfl,hg1⟩;obtain ⟨b0,b1,b2,b3⟩:=box_four hg1 (by simp);have H1:=(HRS.out.allo _).keep hg1;obtain ⟨⟨d0,d1,d2,d3⟩,y0,y1,y3⟩:=H1.cells;dsimp only at d0 d1 d3;have l1T:=H1.m.lt;have l1C:=H1.cs.lt;have li:=alloc_lt hg1)
 go_ret2
 exact ⟨rfl,RS.allo ((H1.setPc (pc+1) _ (by omega)).setX _) _⟩
set_option maxHeartbeats 2000000 in
theorem rst_12t (w0 w:World) (T CB lb loff n lc:Nat) (q:Nat→Int) (po:Option Addr) (m pcap:Nat) (p:Nat→Int) (S:Flt) (h:Fsp w0 w T CB lb loff n q po m p S) (hk:(kd (q (4*S.pc))).kind=12) (hx:(kd (q (4*S.pc))).x=true) :
  Calls Tryz.prog 75 #[.pointer (some ⟨T,0,none⟩),.slice (some ⟨lb,loff,none⟩) n lc,.slice po m pcap] w fun e w'=>e=.returned (.tuple #[.int .i64 S.a,.bool true])∧w0.grownBy w' none:=by
 obtain ⟨pc,a,x,cs⟩:=S
 obtain ⟨hn,hm,good,hp,inv,rs,row,src⟩:=h
 obtain ⟨i1,ua,ux,i4⟩:=inv
 obtain ⟨g1,g2,g3,g4,g5⟩:=good.at i1
 have num:=good.num
 have n1:=num (4*pc+1)
 have n2:=num (4*pc+2)
 have n3:=num (4*pc+3)
 have uk:U32 (q (4*pc+3)):=num_u32 num _
 obtain ⟨r1,r2,r3,r4,r5⟩:=kd_range _ g1
 obtain ⟨⟨c0,c1,c2,c3⟩,z0,z1,z3⟩:=rs.cells
 dsimp only at *
 have a0:=ua.1
 have a1:=ua.2
 have x0:=ux.1
 have x1:=ux.2
 obtain ⟨l0,l1,l2,l3⟩:=(row.keep rs.gr (by simp)).insn i1
 have lT:=rs.m.lt
 have HRS:Hid (RS w0 w T CB ⟨pc,a,x,cs⟩):=rs
 have HK:Hid ((kd (q (4*pc))).kind=12):=hk
 have HX:Hid ((kd (q (4*pc))).x=true):=hx
 clear hx
 clear rs hk good g1 r1 r2 num
 go_enter Tryz.func75,Tryz.ntmps75
 go_wp2_with (go_at_call 48;refine (kind_at _ _).mono ?_;rw [HK.out];rw [HX.out];rintro e w1 ⟨rfl,hg1⟩;obtain ⟨b0,b1,b2,b3⟩:=box_four hg1 (by simp);have H1:=(HRS.out.allo _).keep hg1;obtain ⟨⟨d0,d1,d2,d3⟩,y0,y1,y3⟩:=H1.cells;dsimp only at d0 d1 d3;have l1T:=H1.m.lt;have l1C:=H1.cs.lt;have li:=alloc_lt hg1)
 go_ret2
 exact ⟨rfl,grown_alloc (H1.setPc (pc+1) _ (by omega)).gr _⟩
set_option maxHeartbeats 2000000 in
theorem rst_10t (w0 w:World) (T CB lb loff n lc:Nat) (q:Nat→Int) (po:Option Addr) (m pcap:Nat) (p:Nat→Int) (S:Flt) (h:Fsp w0 w T CB lb loff n q po m p S) (hk:(kd (q (4*S.pc))).kind=10) (hx:(kd (q (4*S.pc))).x=true) :
  Calls Tryz.prog 75 #[.pointer (some ⟨T,0,none⟩),.slice (some ⟨lb,loff,none⟩) n lc,.slice po m pcap] w fun e w'=>e=.returned (.tuple #[.int .i64 0,.bool false])∧RS w0 w' T CB ⟨S.pc+1+(q (4*S.pc+3)).toNat,S.a,S.x,S.cs⟩:=by
 obtain ⟨pc,a,x,cs⟩:=S
 obtain ⟨hn,hm,good,hp,inv,rs,row,src⟩:=h
 obtain ⟨i1,ua,ux,i4⟩:=inv
 obtain ⟨g1,g2,g3,g4,g5⟩:=good.at i1
 have num:=good.num
 have n1:=num (4*pc+1)
 have n2:=num (4*pc+2)
 have n3:=num (4*pc+3)
 have uk:U32 (q (4*pc+3)):=num_u32 num _
 obtain ⟨r1,r2,r3,r4,r5⟩:=kd_range _ g1
 obtain ⟨⟨c0,c1,c2,c3⟩,z0,z1,z3⟩:=rs.cells
 dsimp only at *
 have a0:=ua.1
 have a1:=ua.2
 have x0:=ux.1
 have x1:=ux.2
 obtain ⟨l0,l1,l2,l3⟩:=(row.keep rs.gr (by simp)).insn i1
 have lT:=rs.m.lt
 have HRS:Hid (RS w0 w T CB ⟨pc,a,x,cs⟩):=rs
 have HK:Hid ((kd (q (4*pc))).kind=10):=hk
 have HX:Hid ((kd (q (4*pc))).x=true):=hx
 clear hx
 have g3:=g3 HK.out
 clear rs hk good g1 r1 r2 num
 go_enter Tryz.func75,Tryz.ntmps75
 go_wp2_with (go_at_call 48;refine (kind_at _ _).mono ?_;rw [HK.out];rw [HX.out];rintro e w1 ⟨rfl,hg1⟩;obtain ⟨b0,b1,b2,b3⟩:=box_four hg1 (by simp);have H1:=(HRS.out.allo _).keep hg1;obtain ⟨⟨d0,d1,d2,d3⟩,y0,y1,y3⟩:=H1.cells;dsimp only at d0 d1 d3;have l1T:=H1.m.lt;have l1C:=H1.cs.lt;have li:=alloc_lt hg1)
 go_region
 all_goals go_wp2
 go_ret2
 exact ⟨rfl,by repeat (first | exact RS.setPc (H1.setPc (pc+1) _ (by omega)) (pc+1+(q (4*pc+3)).toNat) _ (by omega) | refine RS.drew ?_ | refine RS.allo ?_ _ | refine RS.drewN ?_ _ | refine RS.setPc (S:=⟨pc+1,a,x,cs⟩) ?_ (pc+1+(q (4*pc+3)).toNat) _ (by omega) | exact (H1.setPc (pc+1) _ (by omega)))⟩
end Go.Proofs.YthbcfepbkkbjiaaGreatDoor
namespace Go.Proofs.YthbcfepbkkbjiaaGreatDoor
open Go.RowKit
set_option maxHeartbeats 2000000 in
theorem rst_2f (w0 w:World) (T CB lb loff n lc:Nat) (q:Nat→Int) (po:Option Addr) (m pcap:Nat) (p:Nat→Int) (S:Flt) (h:Fsp w0 w T CB lb loff n q po m p S) (hk:(kd (q (4*S.pc))).kind=2) (hx:(kd (q (4*S.pc))).x=false) :
  Calls Tryz.prog 75 #[.pointer (some ⟨T,0,none⟩),.slice (some ⟨lb,loff,none⟩) n lc,.slice po m pcap] w fun e w'=>e=.returned (.tuple #[.int .i64 0,.bool false])∧RS w0 w' T CB ⟨S.pc+1,q (4*S.pc+3),S.x,S.cs⟩:=by
 obtain ⟨pc,a,x,cs⟩:=S
 obtain ⟨hn,hm,good,hp,inv,rs,row,src⟩:=h
 obtain ⟨i1,ua,ux,i4⟩:=inv
 obtain ⟨g1,g2,g3,g4,g5⟩:=good.at i1
 have num:=good.num
 have n1:=num (4*pc+1)
 have n2:=num (4*pc+2)
 have n3:=num (4*pc+3)
 have uk:U32 (q (4*pc+3)):=num_u32 num _
 obtain ⟨r1,r2,r3,r4,r5⟩:=kd_range _ g1
 obtain ⟨⟨c0,c1,c2,c3⟩,z0,z1,z3⟩:=rs.cells
 dsimp only at *
 have a0:=ua.1
 have a1:=ua.2
 have x0:=ux.1
 have x1:=ux.2
 obtain ⟨l0,l1,l2,l3⟩:=(row.keep rs.gr (by simp)).insn i1
 have lT:=rs.m.lt
 have HRS:Hid (RS w0 w T CB ⟨pc,a,x,cs⟩):=rs
 have HK:Hid ((kd (q (4*pc))).kind=2):=hk
 have HX:Hid ((kd (q (4*pc))).x=false):=hx
 clear hx
 clear rs hk good g1 r1 r2 num
 go_enter Tryz.func75,Tryz.ntmps75
 go_wp2_with (go_at_call 48;refine (kind_at _ _).mono ?_;rw [HK.out];rw [HX.out];rintro e w1 ⟨rfl,hg1⟩;obtain ⟨b0,b1,b2,b3⟩:=box_four hg1 (by simp);have H1:=(HRS.out.allo _).keep hg1;obtain ⟨⟨d0,d1,d2,d3⟩,y0,y1,y3⟩:=H1.cells;dsimp only at d0 d1 d3;have l1T:=H1.m.lt;have l1C:=H1.cs.lt;have li:=alloc_lt hg1)
 go_wp2_with (go_at_call 111;refine (put_a w0 _ T CB ⟨pc+1,a,x,cs⟩ _ _ _ _ _ _ _ _ _ m (RS.allo (H1.setPc (pc+1) _ (by omega)) _) (Or.inl ⟨rfl,rfl⟩)).mono ?_;rintro e w2 ⟨rfl,h2⟩)
 go_ret2
 exact ⟨rfl,h2⟩
set_option maxHeartbeats 2000000 in
theorem rst_3f (w0 w:World) (T CB lb loff n lc:Nat) (q:Nat→Int) (po:Option Addr) (m pcap:Nat) (p:Nat→Int) (S:Flt) (h:Fsp w0 w T CB lb loff n q po m p S) (hk:(kd (q (4*S.pc))).kind=3) (hx:(kd (q (4*S.pc))).x=false) :
  Calls Tryz.prog 75 #[.pointer (some ⟨T,0,none⟩),.slice (some ⟨lb,loff,none⟩) n lc,.slice po m pcap] w fun e w'=>e=.returned (.tuple #[.int .i64 0,.bool false])∧RS w0 w' T CB ⟨S.pc+1,S.cs (q (4*S.pc+3)).toNat,S.x,S.cs⟩:=by
 obtain ⟨pc,a,x,cs⟩:=S
 obtain ⟨hn,hm,good,hp,inv,rs,row,src⟩:=h
 obtain ⟨i1,ua,ux,i4⟩:=inv
 obtain ⟨g1,g2,g3,g4,g5⟩:=good.at i1
 have num:=good.num
 have n1:=num (4*pc+1)
 have n2:=num (4*pc+2)
 have n3:=num (4*pc+3)
 have uk:U32 (q (4*pc+3)):=num_u32 num _
 obtain ⟨r1,r2,r3,r4,r5⟩:=kd_range _ g1
 obtain ⟨⟨c0,c1,c2,c3⟩,z0,z1,z3⟩:=rs.cells
 dsimp only at *
 have a0:=ua.1
 have a1:=ua.2
 have x0:=ux.1
 have x1:=ux.2
 obtain ⟨l0,l1,l2,l3⟩:=(row.keep rs.gr (by simp)).insn i1
 have lT:=rs.m.lt
 have HRS:Hid (RS w0 w T CB ⟨pc,a,x,cs⟩):=rs
 have HK:Hid ((kd (q (4*pc))).kind=3):=hk
 have HX:Hid ((kd (q (4*pc))).x=false):=hx
 clear hx
 clear rs hk good g1 r1 r2 num
 have k16:=g2 (Or.inl HK.out)
 go_enter Tryz.func75,Tryz.ntmps75
 go_wp2_with (go_at_call 48;refine (kind_at _ _).mono ?_;rw [HK.out];rw [HX.out];rintro e w1 ⟨rfl,hg1⟩;obtain ⟨b0,b1,b2,b3⟩:=box_four hg1 (by simp);have H1:=(HRS.out.allo _).keep hg1;obtain ⟨⟨d0,d1,d2,d3⟩,y0,y1,y3⟩:=H1.cells;dsimp only at d0 d1 d3;have l1T:=H1.m.lt;have l1C:=H1.cs.lt;have li:=alloc_lt hg1)
 go_wp2_with (go_at_call 111;refine (put_a w0 _ T CB ⟨pc+1,a,x,cs⟩ _ _ _ _ _ _ _ _ _ m (RS.allo (H1.setPc (pc+1) _ (by omega)) _) (Or.inr (Or.inl ⟨rfl,n3.1,k16,rfl⟩))).mono ?_;rintro e w2 ⟨rfl,h2⟩)
 go_ret2
 exact ⟨rfl,h2⟩
set_option maxHeartbeats 2000000 in
theorem rst_4f (w0 w:World) (T CB lb loff n lc:Nat) (q:Nat→Int) (po:Option Addr) (m pcap:Nat) (p:Nat→Int) (S:Flt) (h:Fsp w0 w T CB lb loff n q po m p S) (hk:(kd (q (4*S.pc))).kind=4) (hx:(kd (q (4*S.pc))).x=false) :
  Calls Tryz.prog 75 #[.pointer (some ⟨T,0,none⟩),.slice (some ⟨lb,loff,none⟩) n lc,.slice po m pcap] w fun e w'=>e=.returned (.tuple #[.int .i64 0,.bool false])∧RS w0 w' T CB ⟨S.pc+1,m,S.x,S.cs⟩:=by
 obtain ⟨pc,a,x,cs⟩:=S
 obtain ⟨hn,hm,good,hp,inv,rs,row,src⟩:=h
 obtain ⟨i1,ua,ux,i4⟩:=inv
 obtain ⟨g1,g2,g3,g4,g5⟩:=good.at i1
 have num:=good.num
 have n1:=num (4*pc+1)
 have n2:=num (4*pc+2)
 have n3:=num (4*pc+3)
 have uk:U32 (q (4*pc+3)):=num_u32 num _
 obtain ⟨r1,r2,r3,r4,r5⟩:=kd_range _ g1
 obtain ⟨⟨c0,c1,c2,c3⟩,z0,z1,z3⟩:=rs.cells
 dsimp only at *
 have a0:=ua.1
 have a1:=ua.2
 have x0:=ux.1
 have x1:=ux.2
 obtain ⟨l0,l1,l2,l3⟩:=(row.keep rs.gr (by simp)).insn i1
 have lT:=rs.m.lt
 have HRS:Hid (RS w0 w T CB ⟨pc,a,x,cs⟩):=rs
 have HK:Hid ((kd (q (4*pc))).kind=4):=hk
 have HX:Hid ((kd (q (4*pc))).x=false):=hx
 clear hx
 clear rs hk good g1 r1 r2 num
 go_enter Tryz.func75,Tryz.ntmps75
 go_wp2_with (go_at_call 48;refine (kind_at _ _).mono ?_;rw [HK.out];rw [HX.out];rintro e w1 ⟨rfl,hg1⟩;obtain ⟨b0,b1,b2,b3⟩:=box_four hg1 (by simp);have H1:=(HRS.out.allo _).keep hg1;obtain ⟨⟨d0,d1,d2,d3⟩,y0,y1,y3⟩:=H1.cells;dsimp only at d0 d1 d3;have l1T:=H1.m.lt;have l1C:=H1.cs.lt;have li:=alloc_lt hg1)
 go_wp2_with (go_at_call 111;refine (put_a w0 _ T CB ⟨pc+1,a,x,cs⟩ _ _ _ _ _ _ _ _ _ m (RS.allo (H1.setPc (pc+1) _ (by omega)) _) (Or.inr (Or.inr ⟨rfl,rfl⟩))).mono ?_;rintro e w2 ⟨rfl,h2⟩)
 go_ret2
 exact ⟨rfl,h2⟩
set_option maxHeartbeats 2000000 in
theorem rst_2t (w0 w:World) (T CB lb loff n lc:Nat) (q:Nat→Int) (po:Option Addr) (m pcap:Nat) (p:Nat→Int) (S:Flt) (h:Fsp w0 w T CB lb loff n q po m p S) (hk:(kd (q (4*S.pc))).kind=2) (hx:(kd (q (4*S.pc))).x=true) :
  Calls Tryz.prog 75 #[.pointer (some ⟨T,0,none⟩),.slice (some ⟨lb,loff,none⟩) n lc,.slice po m pcap] w fun e w'=>e=.returned (.tuple #[.int .i64 0,.bool false])∧RS w0 w' T CB ⟨S.pc+1,S.a,q (4*S.pc+3),S.cs⟩:=by
 obtain ⟨pc,a,x,cs⟩:=S
 obtain ⟨hn,hm,good,hp,inv,rs,row,src⟩:=h
 obtain ⟨i1,ua,ux,i4⟩:=inv
 obtain ⟨g1,g2,g3,g4,g5⟩:=good.at i1
 have num:=good.num
 have n1:=num (4*pc+1)
 have n2:=num (4*pc+2)
 have n3:=num (4*pc+3)
 have uk:U32 (q (4*pc+3)):=num_u32 num _
 obtain ⟨r1,r2,r3,r4,r5⟩:=kd_range _ g1
 obtain ⟨⟨c0,c1,c2,c3⟩,z0,z1,z3⟩:=rs.cells
 dsimp only at *
 have a0:=ua.1
 have a1:=ua.2
 have x0:=ux.1
 have x1:=ux.2
 obtain ⟨l0,l1,l2,l3⟩:=(row.keep rs.gr (by simp)).insn i1
 have lT:=rs.m.lt
 have HRS:Hid (RS w0 w T CB ⟨pc,a,x,cs⟩):=rs
 have HK:Hid ((kd (q (4*pc))).kind=2):=hk
 have HX:Hid ((kd (q (4*pc))).x=true):=hx
 clear hx
 clear rs hk good g1 r1 r2 num
 go_enter Tryz.func75,Tryz.ntmps75
 go_wp2_with (go_at_call 48;refine (kind_at _ _).mono ?_;rw [HK.out];rw [HX.out];rintro e w1 ⟨rfl,hg1⟩;obtain ⟨b0,b1,b2,b3⟩:=box_four hg1 (by simp);have H1:=(HRS.out.allo _).keep hg1;obtain ⟨⟨d0,d1,d2,d3⟩,y0,y1,y3⟩:=H1.cells;dsimp only at d0 d1 d3;have l1T:=H1.m.lt;have l1C:=H1.cs.lt;have li:=alloc_lt hg1)
 go_wp2_with (go_at_call 111;refine (put_x w0 _ T CB ⟨pc+1,a,x,cs⟩ _ _ _ _ _ _ _ _ _ m (RS.allo (H1.setPc (pc+1) _ (by omega)) _) (Or.inl ⟨rfl,rfl⟩)).mono ?_;rintro e w2 ⟨rfl,h2⟩)
 go_ret2
 exact ⟨rfl,h2⟩
set_option maxHeartbeats 2000000 in
theorem rst_3t (w0 w:World) (T CB lb loff n lc:Nat) (q:Nat→Int) (po:Option Addr) (m pcap:Nat) (p:Nat→Int) (S:Flt) (h:Fsp w0 w T CB lb loff n q po m p S) (hk:(kd (q (4*S.pc))).kind=3) (hx:(kd (q (4*S.pc))).x=true) :
  Calls Tryz.prog 75 #[.pointer (some ⟨T,0,none⟩),.slice (some ⟨lb,loff,none⟩) n lc,.slice po m pcap] w fun e w'=>e=.returned (.tuple #[.int .i64 0,.bool false])∧RS w0 w' T CB ⟨S.pc+1,S.a,S.cs (q (4*S.pc+3)).toNat,S.cs⟩:=by
 obtain ⟨pc,a,x,cs⟩:=S
 obtain ⟨hn,hm,good,hp,inv,rs,row,src⟩:=h
 obtain ⟨i1,ua,ux,i4⟩:=inv
 obtain ⟨g1,g2,g3,g4,g5⟩:=good.at i1
 have num:=good.num
 have n1:=num (4*pc+1)
 have n2:=num (4*pc+2)
 have n3:=num (4*pc+3)
 have uk:U32 (q (4*pc+3)):=num_u32 num _
 obtain ⟨r1,r2,r3,r4,r5⟩:=kd_range _ g1
 obtain ⟨⟨c0,c1,c2,c3⟩,z0,z1,z3⟩:=rs.cells
 dsimp only at *
 have a0:=ua.1
 have a1:=ua.2
 have x0:=ux.1
 have x1:=ux.2
 obtain ⟨l0,l1,l2,l3⟩:=(row.keep rs.gr (by simp)).insn i1
 have lT:=rs.m.lt
 have HRS:Hid (RS w0 w T CB ⟨pc,a,x,cs⟩):=rs
 have HK:Hid ((kd (q (4*pc))).kind=3):=hk
 have HX:Hid ((kd (q (4*pc))).x=true):=hx
 clear hx
 clear rs hk good g1 r1 r2 num
 have k16:=g2 (Or.inl HK.out)
 go_enter Tryz.func75,Tryz.ntmps75
 go_wp2_with (go_at_call 48;refine (kind_at _ _).mono ?_;rw [HK.out];rw [HX.out];rintro e w1 ⟨rfl,hg1⟩;obtain ⟨b0,b1,b2,b3⟩:=box_four hg1 (by simp);have H1:=(HRS.out.allo _).keep hg1;obtain ⟨⟨d0,d1,d2,d3⟩,y0,y1,y3⟩:=H1.cells;dsimp only at d0 d1 d3;have l1T:=H1.m.lt;have l1C:=H1.cs.lt;have li:=alloc_lt hg1)
 go_wp2_with (go_at_call 111;refine (put_x w0 _ T CB ⟨pc+1,a,x,cs⟩ _ _ _ _ _ _ _ _ _ m (RS.allo (H1.setPc (pc+1) _ (by omega)) _) (Or.inr (Or.inl ⟨rfl,n3.1,k16,rfl⟩))).mono ?_;rintro e w2 ⟨rfl,h2⟩)
 go_ret2
 exact ⟨rfl,h2⟩
set_option maxHeartbeats 2000000 in
theorem rst_4t (w0 w:World) (T CB lb loff n lc:Nat) (q:Nat→Int) (po:Option Addr) (m pcap:Nat) (p:Nat→Int) (S:Flt) (h:Fsp w0 w T CB lb loff n q po m p S) (hk:(kd (q (4*S.pc))).kind=4) (hx:(kd (q (4*S.pc))).x=true) :
  Calls Tryz.prog 75 #[.pointer (some ⟨T,0,none⟩),.slice (some ⟨lb,loff,none⟩) n lc,.slice po m pcap] w fun e w'=>e=.returned (.tuple #[.int .i64 0,.bool false])∧RS w0 w' T CB ⟨S.pc+1,S.a,m,S.cs⟩:=by
 obtain ⟨pc,a,x,cs⟩:=S
 obtain ⟨hn,hm,good,hp,inv,rs,row,src⟩:=h
 obtain ⟨i1,ua,ux,i4⟩:=inv
 obtain ⟨g1,g2,g3,g4,g5⟩:=good.at i1
 have num:=good.num
 have n1:=num (4*pc+1)
 have n2:=num (4*pc+2)
 have n3:=num (4*pc+3)
 have uk:U32 (q (4*pc+3)):=num_u32 num _
 obtain ⟨r1,r2,r3,r4,r5⟩:=kd_range _ g1
 obtain ⟨⟨c0,c1,c2,c3⟩,z0,z1,z3⟩:=rs.cells
 dsimp only at *
 have a0:=ua.1
 have a1:=ua.2
 have x0:=ux.1
 have x1:=ux.2
 obtain ⟨l0,l1,l2,l3⟩:=(row.keep rs.gr (by simp)).insn i1
 have lT:=rs.m.lt
 have HRS:Hid (RS w0 w T CB ⟨pc,a,x,cs⟩):=rs
 have HK:Hid ((kd (q (4*pc))).kind=4):=hk
 have HX:Hid ((kd (q (4*pc))).x=true):=hx
 clear hx
 clear rs hk good g1 r1 r2 num
 go_enter Tryz.func75,Tryz.ntmps75
 go_wp2_with (go_at_call 48;refine (kind_at _ _).mono ?_;rw [HK.out];rw [HX.out];rintro e w1 ⟨rfl,hg1⟩;obtain ⟨b0,b1,b2,b3⟩:=box_four hg1 (by simp);have H1:=(HRS.out.allo _).keep hg1;obtain ⟨⟨d0,d1,d2,d3⟩,y0,y1,y3⟩:=H1.cells;dsimp only at d0 d1 d3;have l1T:=H1.m.lt;have l1C:=H1.cs.lt;have li:=alloc_lt hg1)
 go_wp2_with (go_at_call 111;refine (put_x w0 _ T CB ⟨pc+1,a,x,cs⟩ _ _ _ _ _ _ _ _ _ m (RS.allo (H1.setPc (pc+1) _ (by omega)) _) (Or.inr (Or.inr ⟨rfl,rfl⟩))).mono ?_;rintro e w2 ⟨rfl,h2⟩)
 go_ret2
 exact ⟨rfl,h2⟩
end Go.Proofs.YthbcfepbkkbjiaaGreatDoor
