import Derived.Test.YthbcfepbkkbjiaaGreatDoorI9
set_option linter.unusedVariables false
set_option maxRecDepth 100000
namespace Go.Proofs.YthbcfepbkkbjiaaGreatDoor
open Go.RowKit
set_option maxHeartbeats 2000000 in
theorem rst_11fn (w0 w:World) (T CB lb loff n lc:Nat) (q:Nat→Int) (po:Option Addr) (m pcap:Nat) (p:Nat→Int) (S:Flt) (h:Fsp w0 w T CB lb loff n q po m p S) (hk:(kd (q (4*S.pc))).kind=11) (hx:(kd (q (4*S.pc))).x=false) (hq:askv (kd (q (4*S.pc))).o S.a (q (4*S.pc+3))=false) :
  Calls Tryz.prog 75 #[.pointer (some ⟨T,0,none⟩),.slice (some ⟨lb,loff,none⟩) n lc,.slice po m pcap] w fun e w'=>e=.returned (.tuple #[.int .i64 0,.bool false])∧RS w0 w' T CB ⟨S.pc+1+(q (4*S.pc+2)).toNat,S.a,S.x,S.cs⟩:=by
 obtain ⟨pc,a,x,cs⟩:=S
 obtain ⟨hn,hm,good,hp,inv,rs,row,src⟩:=h
 obtain ⟨i1,ua,ux,i4⟩:=inv
 obtain ⟨g1,g2,g3,g4,g5⟩:=good.at i1
 have num:=good.num
 have n1:=num (4*pc+1)
 have n2:=num (4*pc+2)
 have n3:=num (4*pc+3)
 have uk:U32 (q (4*pc+3)):=num_u32 num _
 obtain ⟨r1,r2,r3,r4,r5⟩:=kd_range _ g1
 obtain ⟨⟨c0,c1,c2,c3⟩,z0,z1,z3⟩:=rs.cells
 dsimp only at *
 have a0:=ua.1
 have a1:=ua.2
 have x0:=ux.1
 have x1:=ux.2
 obtain ⟨l0,l1,l2,l3⟩:=(row.keep rs.gr (by simp)).insn i1
 have lT:=rs.m.lt
 have HRS:Hid (RS w0 w T CB ⟨pc,a,x,cs⟩):=rs
 have HK:Hid ((kd (q (4*pc))).kind=11):=hk
 have HX:Hid ((kd (q (4*pc))).x=false):=hx
 clear hx
 have HA:Hid (∀ w,Calls Tryz.prog 85 #[.int .i64 (kd (q (4*pc))).o,.int .i64 a,.int .i64 (q (4*pc+3))] w fun e w'=>e=.returned (.bool false)∧w'=w):=fun w=>by have:=asked_same (kd (q (4*pc))).o a (q (4*pc+3)) w (r5 HK.out) ua uk;rwa [hq] at this
 clear hq
 clear rs hk good g1 r1 r2 num
 go_enter Tryz.func75,Tryz.ntmps75
 go_wp2_with (go_at_call 48;refine (kind_at _ _).mono ?_;rw [HK.out];rw [HX.out];rintro e w1 ⟨rfl,hg1⟩;obtain ⟨b0,b1,b2,b3⟩:=box_four hg1 (by simp);have H1:=(HRS.out.allo _).keep hg1;obtain ⟨⟨d0,d1,d2,d3⟩,y0,y1,y3⟩:=H1.cells;dsimp only at d0 d1 d3;have l1T:=H1.m.lt;have l1C:=H1.cs.lt;have li:=alloc_lt hg1)
 go_quiet ((go_at_call 85;refine Calls.quiet_of_same (HA.out _)))
 go_wp2
 go_region
 all_goals go_wp2
 go_ret2
 exact ⟨rfl,by repeat (first | refine RS.drew ?_ | refine RS.allo ?_ _ | refine RS.drewN ?_ _ | refine RS.setPc (S:=⟨pc+1,a,x,cs⟩) ?_ (pc+1+(q (4*pc+2)).toNat) _ (by omega) | exact (H1.setPc (pc+1) _ (by omega)))⟩
set_option maxHeartbeats 2000000 in
theorem rst_11fy (w0 w:World) (T CB lb loff n lc:Nat) (q:Nat→Int) (po:Option Addr) (m pcap:Nat) (p:Nat→Int) (S:Flt) (h:Fsp w0 w T CB lb loff n q po m p S) (hk:(kd (q (4*S.pc))).kind=11) (hx:(kd (q (4*S.pc))).x=false) (hq:askv (kd (q (4*S.pc))).o S.a (q (4*S.pc+3))=true) :
  Calls Tryz.prog 75 #[.pointer (some ⟨T,0,none⟩),.slice (some ⟨lb,loff,none⟩) n lc,.slice po m pcap] w fun e w'=>e=.returned (.tuple #[.int .i64 0,.bool false])∧RS w0 w' T CB ⟨S.pc+1+(q (4*S.pc+1)).toNat,S.a,S.x,S.cs⟩:=by
 obtain ⟨pc,a,x,cs⟩:=S
 obtain ⟨hn,hm,good,hp,inv,rs,row,src⟩:=h
 obtain ⟨i1,ua,ux,i4⟩:=inv
 obtain ⟨g1,g2,g3,g4,g5⟩:=good.at i1
 have num:=good.num
 have n1:=num (4*pc+1)
 have n2:=num (4*pc+2)
 have n3:=num (4*pc+3)
 have uk:U32 (q (4*pc+3)):=num_u32 num _
 obtain ⟨r1,r2,r3,r4,r5⟩:=kd_range _ g1
 obtain ⟨⟨c0,c1,c2,c3⟩,z0,z1,z3⟩:=rs.cells
 dsimp only at *
 have a0:=ua.1
 have a1:=ua.2
 have x0:=ux.1
 have x1:=ux.2
 obtain ⟨l0,l1,l2,l3⟩:=(row.keep rs.gr (by simp)).insn i1
 have lT:=rs.m.lt
 have HRS:Hid (RS w0 w T CB ⟨pc,a,x,cs⟩):=rs
 have HK:Hid ((kd (q (4*pc))).kind=11):=hk
 have HX:Hid ((kd (q (4*pc))).x=false):=hx
 clear hx
 have HA:Hid (∀ w,Calls Tryz.prog 85 #[.int .i64 (kd (q (4*pc))).o,.int .i64 a,.int .i64 (q (4*pc+3))] w fun e w'=>e=.returned (.bool true)∧w'=w):=fun w=>by have:=asked_same (kd (q (4*pc))).o a (q (4*pc+3)) w (r5 HK.out) ua uk;rwa [hq] at this
 clear hq
 clear rs hk good g1 r1 r2 num
 go_enter Tryz.func75,Tryz.ntmps75
 go_wp2_with (go_at_call 48;refine (kind_at _ _).mono ?_;rw [HK.out];rw [HX.out];rintro e w1 ⟨rfl,hg1⟩;obtain ⟨b0,b1,b2,b3⟩:=box_four hg1 (by simp);have H1:=(HRS.out.allo _).keep hg1;obtain ⟨⟨d0,d1,d2,d3⟩,y0,y1,y3⟩:=H1.cells;dsimp only at d0 d1 d3;have l1T:=H1.m.lt;have l1C:=H1.cs.lt;have li:=alloc_lt hg1)
 go_quiet ((go_at_call 85;refine Calls.quiet_of_same (HA.out _)))
 go_wp2
 go_region
 all_goals go_wp2
 go_ret2
 exact ⟨rfl,by repeat (first | refine RS.drew ?_ | refine RS.allo ?_ _ | refine RS.drewN ?_ _ | refine RS.setPc (S:=⟨pc+1,a,x,cs⟩) ?_ (pc+1+(q (4*pc+1)).toNat) _ (by omega) | exact (H1.setPc (pc+1) _ (by omega)))⟩
set_option maxHeartbeats 2000000 in
theorem rst_8fn (w0 w:World) (T CB lb loff n lc:Nat) (q:Nat→Int) (po:Option Addr) (m pcap:Nat) (p:Nat→Int) (S:Flt) (h:Fsp w0 w T CB lb loff n q po m p S) (hk:(kd (q (4*S.pc))).kind=8) (hx:(kd (q (4*S.pc))).x=false) (hq:div0 (kd (q (4*S.pc))).o (q (4*S.pc+3))=false) :
  Calls Tryz.prog 75 #[.pointer (some ⟨T,0,none⟩),.slice (some ⟨lb,loff,none⟩) n lc,.slice po m pcap] w fun e w'=>e=.returned (.tuple #[.int .i64 0,.bool false])∧RS w0 w' T CB ⟨S.pc+1,opr (kd (q (4*S.pc))).o S.a (q (4*S.pc+3)),S.x,S.cs⟩:=by
 obtain ⟨pc,a,x,cs⟩:=S
 obtain ⟨hn,hm,good,hp,inv,rs,row,src⟩:=h
 obtain ⟨i1,ua,ux,i4⟩:=inv
 obtain ⟨g1,g2,g3,g4,g5⟩:=good.at i1
 have num:=good.num
 have n1:=num (4*pc+1)
 have n2:=num (4*pc+2)
 have n3:=num (4*pc+3)
 have uk:U32 (q (4*pc+3)):=num_u32 num _
 obtain ⟨r1,r2,r3,r4,r5⟩:=kd_range _ g1
 obtain ⟨⟨c0,c1,c2,c3⟩,z0,z1,z3⟩:=rs.cells
 dsimp only at *
 have a0:=ua.1
 have a1:=ua.2
 have x0:=ux.1
 have x1:=ux.2
 obtain ⟨l0,l1,l2,l3⟩:=(row.keep rs.gr (by simp)).insn i1
 have lT:=rs.m.lt
 have HRS:Hid (RS w0 w T CB ⟨pc,a,x,cs⟩):=rs
 have HK:Hid ((kd (q (4*pc))).kind=8):=hk
 have HX:Hid ((kd (q (4*pc))).x=false):=hx
 clear hx
 have HA:Hid (∀ w,Calls Tryz.prog 84 #[.int .i64 (kd (q (4*pc))).o,.int .i64 a,.int .i64 (q (4*pc+3))] w fun e w'=>e=.returned (.tuple #[.int .i64 (opr (kd (q (4*pc))).o a (q (4*pc+3))),.bool true])∧w'=w):=fun w=>by have:=done_same (kd (q (4*pc))).o a (q (4*pc+3)) w (r4 HK.out) ua uk;rwa [hq] at this
 clear hq
 clear rs hk good g1 r1 r2 num
 go_enter Tryz.func75,Tryz.ntmps75
 go_wp2_with (go_at_call 48;refine (kind_at _ _).mono ?_;rw [HK.out];rw [HX.out];rintro e w1 ⟨rfl,hg1⟩;obtain ⟨b0,b1,b2,b3⟩:=box_four hg1 (by simp);have H1:=(HRS.out.allo _).keep hg1;obtain ⟨⟨d0,d1,d2,d3⟩,y0,y1,y3⟩:=H1.cells;dsimp only at d0 d1 d3;have l1T:=H1.m.lt;have l1C:=H1.cs.lt;have li:=alloc_lt hg1)
 go_region_with (go_at_call 84;refine (HA.out _).mono ?_;rintro e w2 ⟨rfl,rfl⟩)
 all_goals (first | exact ?main | refine ?main)
 go_wp2
 go_ret2
 exact ⟨rfl,by repeat (first | refine RS.drew ?_ | refine RS.allo ?_ _ | refine RS.drewN ?_ _ | refine RS.setA (S:=⟨pc+1,a,x,cs⟩) ?_ _ | exact (H1.setPc (pc+1) _ (by omega)))⟩
set_option maxHeartbeats 2000000 in
theorem rst_8fz (w0 w:World) (T CB lb loff n lc:Nat) (q:Nat→Int) (po:Option Addr) (m pcap:Nat) (p:Nat→Int) (S:Flt) (h:Fsp w0 w T CB lb loff n q po m p S) (hk:(kd (q (4*S.pc))).kind=8) (hx:(kd (q (4*S.pc))).x=false) (hq:div0 (kd (q (4*S.pc))).o (q (4*S.pc+3))=true) :
  Calls Tryz.prog 75 #[.pointer (some ⟨T,0,none⟩),.slice (some ⟨lb,loff,none⟩) n lc,.slice po m pcap] w fun e w'=>e=.returned (.tuple #[.int .i64 0,.bool true])∧w0.grownBy w' none:=by
 obtain ⟨pc,a,x,cs⟩:=S
 obtain ⟨hn,hm,good,hp,inv,rs,row,src⟩:=h
 obtain ⟨i1,ua,ux,i4⟩:=inv
 obtain ⟨g1,g2,g3,g4,g5⟩:=good.at i1
 have num:=good.num
 have n1:=num (4*pc+1)
 have n2:=num (4*pc+2)
 have n3:=num (4*pc+3)
 have uk:U32 (q (4*pc+3)):=num_u32 num _
 obtain ⟨r1,r2,r3,r4,r5⟩:=kd_range _ g1
 obtain ⟨⟨c0,c1,c2,c3⟩,z0,z1,z3⟩:=rs.cells
 dsimp only at *
 have a0:=ua.1
 have a1:=ua.2
 have x0:=ux.1
 have x1:=ux.2
 obtain ⟨l0,l1,l2,l3⟩:=(row.keep rs.gr (by simp)).insn i1
 have lT:=rs.m.lt
 have HRS:Hid (RS w0 w T CB ⟨pc,a,x,cs⟩):=rs
 have HK:Hid ((kd (q (4*pc))).kind=8):=hk
 have HX:Hid ((kd (q (4*pc))).x=false):=hx
 clear hx
 have HA:Hid (∀ w,Calls Tryz.prog 84 #[.int .i64 (kd (q (4*pc))).o,.int .i64 a,.int .i64 (q (4*pc+3))] w fun e w'=>e=.returned (.tuple #[.int .i64 (opr (kd (q (4*pc))).o a (q (4*pc+3))),.bool false])∧w'=w):=fun w=>by have:=done_same (kd (q (4*pc))).o a (q (4*pc+3)) w (r4 HK.out) ua uk;rwa [hq] at this
 clear hq
 clear rs hk good g1 r1 r2 num
 go_enter Tryz.func75,Tryz.ntmps75
 go_wp2_with (go_at_call 48;refine (kind_at _ _).mono ?_;rw [HK.out];rw [HX.out];rintro e w1 ⟨rfl,hg1⟩;obtain ⟨b0,b1,b2,b3⟩:=box_four hg1 (by simp);have H1:=(HRS.out.allo _).keep hg1;obtain ⟨⟨d0,d1,d2,d3⟩,y0,y1,y3⟩:=H1.cells;dsimp only at d0 d1 d3;have l1T:=H1.m.lt;have l1C:=H1.cs.lt;have li:=alloc_lt hg1)
 go_region_with (go_at_call 84;refine (HA.out _).mono ?_;rintro e w2 ⟨rfl,rfl⟩)
 all_goals (first | exact ?main | refine ?main)
 go_wp2
 go_ret2
 exact ⟨rfl,by repeat (first | refine grown_drew ?_ | refine grown_alloc ?_ _ | refine grown_none ?_ (grown_drewN _ _ _) | exact (H1.setPc (pc+1) _ (by omega)).gr | exact ((H1.setPc (pc+1) _ (by omega)).setA _).gr | exact ((RS.drew (H1.setPc (pc+1) _ (by omega))).setA _).gr | exact ((RS.drewN (H1.setPc (pc+1) _ (by omega)) _).setA _).gr | exact ((RS.drewN (RS.allo (H1.setPc (pc+1) _ (by omega)) _) _).setA _).gr)⟩
end Go.Proofs.YthbcfepbkkbjiaaGreatDoor
namespace Go.Proofs.YthbcfepbkkbjiaaGreatDoor
open Go.RowKit
set_option maxHeartbeats 2000000 in
theorem rst_11tn (w0 w:World) (T CB lb loff n lc:Nat) (q:Nat→Int) (po:Option Addr) (m pcap:Nat) (p:Nat→Int) (S:Flt) (h:Fsp w0 w T CB lb loff n q po m p S) (hk:(kd (q (4*S.pc))).kind=11) (hx:(kd (q (4*S.pc))).x=true) (hq:askv (kd (q (4*S.pc))).o S.a S.x=false) :
  Calls Tryz.prog 75 #[.pointer (some ⟨T,0,none⟩),.slice (some ⟨lb,loff,none⟩) n lc,.slice po m pcap] w fun e w'=>e=.returned (.tuple #[.int .i64 0,.bool false])∧RS w0 w' T CB ⟨S.pc+1+(q (4*S.pc+2)).toNat,S.a,S.x,S.cs⟩:=by
 obtain ⟨pc,a,x,cs⟩:=S
 obtain ⟨hn,hm,good,hp,inv,rs,row,src⟩:=h
 obtain ⟨i1,ua,ux,i4⟩:=inv
 obtain ⟨g1,g2,g3,g4,g5⟩:=good.at i1
 have num:=good.num
 have n1:=num (4*pc+1)
 have n2:=num (4*pc+2)
 have n3:=num (4*pc+3)
 have uk:U32 (q (4*pc+3)):=num_u32 num _
 obtain ⟨r1,r2,r3,r4,r5⟩:=kd_range _ g1
 obtain ⟨⟨c0,c1,c2,c3⟩,z0,z1,z3⟩:=rs.cells
 dsimp only at *
 have a0:=ua.1
 have a1:=ua.2
 have x0:=ux.1
 have x1:=ux.2
 obtain ⟨l0,l1,l2,l3⟩:=(row.keep rs.gr (by simp)).insn i1
 have lT:=rs.m.lt
 have HRS:Hid (RS w0 w T CB ⟨pc,a,x,cs⟩):=rs
 have HK:Hid ((kd (q (4*pc))).kind=11):=hk
 have HX:Hid ((kd (q (4*pc))).x=true):=hx
 clear hx
 have HA:Hid (∀ w,Calls Tryz.prog 85 #[.int .i64 (kd (q (4*pc))).o,.int .i64 a,.int .i64 x] w fun e w'=>e=.returned (.bool false)∧w'=w):=fun w=>by have:=asked_same (kd (q (4*pc))).o a x w (r5 HK.out) ua ux;rwa [hq] at this
 clear hq
 clear rs hk good g1 r1 r2 num
 go_enter Tryz.func75,Tryz.ntmps75
 go_wp2_with (go_at_call 48;refine (kind_at _ _).mono ?_;rw [HK.out];rw [HX.out];rintro e w1 ⟨rfl,hg1⟩;obtain ⟨b0,b1,b2,b3⟩:=box_four hg1 (by simp);have H1:=(HRS.out.allo _).keep hg1;obtain ⟨⟨d0,d1,d2,d3⟩,y0,y1,y3⟩:=H1.cells;dsimp only at d0 d1 d3;have l1T:=H1.m.lt;have l1C:=H1.cs.lt;have li:=alloc_lt hg1)
 go_quiet ((go_at_call 85;refine Calls.quiet_of_same (HA.out _)))
 go_wp2
 go_region
 all_goals go_wp2
 go_ret2
 exact ⟨rfl,by repeat (first | refine RS.drew ?_ | refine RS.allo ?_ _ | refine RS.drewN ?_ _ | refine RS.setPc (S:=⟨pc+1,a,x,cs⟩) ?_ (pc+1+(q (4*pc+2)).toNat) _ (by omega) | exact (H1.setPc (pc+1) _ (by omega)))⟩
set_option maxHeartbeats 2000000 in
theorem rst_11ty (w0 w:World) (T CB lb loff n lc:Nat) (q:Nat→Int) (po:Option Addr) (m pcap:Nat) (p:Nat→Int) (S:Flt) (h:Fsp w0 w T CB lb loff n q po m p S) (hk:(kd (q (4*S.pc))).kind=11) (hx:(kd (q (4*S.pc))).x=true) (hq:askv (kd (q (4*S.pc))).o S.a S.x=true) :
  Calls Tryz.prog 75 #[.pointer (some ⟨T,0,none⟩),.slice (some ⟨lb,loff,none⟩) n lc,.slice po m pcap] w fun e w'=>e=.returned (.tuple #[.int .i64 0,.bool false])∧RS w0 w' T CB ⟨S.pc+1+(q (4*S.pc+1)).toNat,S.a,S.x,S.cs⟩:=by
 obtain ⟨pc,a,x,cs⟩:=S
 obtain ⟨hn,hm,good,hp,inv,rs,row,src⟩:=h
 obtain ⟨i1,ua,ux,i4⟩:=inv
 obtain ⟨g1,g2,g3,g4,g5⟩:=good.at i1
 have num:=good.num
 have n1:=num (4*pc+1)
 have n2:=num (4*pc+2)
 have n3:=num (4*pc+3)
 have uk:U32 (q (4*pc+3)):=num_u32 num _
 obtain ⟨r1,r2,r3,r4,r5⟩:=kd_range _ g1
 obtain ⟨⟨c0,c1,c2,c3⟩,z0,z1,z3⟩:=rs.cells
 dsimp only at *
 have a0:=ua.1
 have a1:=ua.2
 have x0:=ux.1
 have x1:=ux.2
 obtain ⟨l0,l1,l2,l3⟩:=(row.keep rs.gr (by simp)).insn i1
 have lT:=rs.m.lt
 have HRS:Hid (RS w0 w T CB ⟨pc,a,x,cs⟩):=rs
 have HK:Hid ((kd (q (4*pc))).kind=11):=hk
 have HX:Hid ((kd (q (4*pc))).x=true):=hx
 clear hx
 have HA:Hid (∀ w,Calls Tryz.prog 85 #[.int .i64 (kd (q (4*pc))).o,.int .i64 a,.int .i64 x] w fun e w'=>e=.returned (.bool true)∧w'=w):=fun w=>by have:=asked_same (kd (q (4*pc))).o a x w (r5 HK.out) ua ux;rwa [hq] at this
 clear hq
 clear rs hk good g1 r1 r2 num
 go_enter Tryz.func75,Tryz.ntmps75
 go_wp2_with (go_at_call 48;refine (kind_at _ _).mono ?_;rw [HK.out];rw [HX.out];rintro e w1 ⟨rfl,hg1⟩;obtain ⟨b0,b1,b2,b3⟩:=box_four hg1 (by simp);have H1:=(HRS.out.allo _).keep hg1;obtain ⟨⟨d0,d1,d2,d3⟩,y0,y1,y3⟩:=H1.cells;dsimp only at d0 d1 d3;have l1T:=H1.m.lt;have l1C:=H1.cs.lt;have li:=alloc_lt hg1)
 go_quiet ((go_at_call 85;refine Calls.quiet_of_same (HA.out _)))
 go_wp2
 go_region
 all_goals go_wp2
 go_ret2
 exact ⟨rfl,by repeat (first | refine RS.drew ?_ | refine RS.allo ?_ _ | refine RS.drewN ?_ _ | refine RS.setPc (S:=⟨pc+1,a,x,cs⟩) ?_ (pc+1+(q (4*pc+1)).toNat) _ (by omega) | exact (H1.setPc (pc+1) _ (by omega)))⟩
set_option maxHeartbeats 2000000 in
theorem rst_8tn (w0 w:World) (T CB lb loff n lc:Nat) (q:Nat→Int) (po:Option Addr) (m pcap:Nat) (p:Nat→Int) (S:Flt) (h:Fsp w0 w T CB lb loff n q po m p S) (hk:(kd (q (4*S.pc))).kind=8) (hx:(kd (q (4*S.pc))).x=true) (hq:div0 (kd (q (4*S.pc))).o S.x=false) :
  Calls Tryz.prog 75 #[.pointer (some ⟨T,0,none⟩),.slice (some ⟨lb,loff,none⟩) n lc,.slice po m pcap] w fun e w'=>e=.returned (.tuple #[.int .i64 0,.bool false])∧RS w0 w' T CB ⟨S.pc+1,opr (kd (q (4*S.pc))).o S.a S.x,S.x,S.cs⟩:=by
 obtain ⟨pc,a,x,cs⟩:=S
 obtain ⟨hn,hm,good,hp,inv,rs,row,src⟩:=h
 obtain ⟨i1,ua,ux,i4⟩:=inv
 obtain ⟨g1,g2,g3,g4,g5⟩:=good.at i1
 have num:=good.num
 have n1:=num (4*pc+1)
 have n2:=num (4*pc+2)
 have n3:=num (4*pc+3)
 have uk:U32 (q (4*pc+3)):=num_u32 num _
 obtain ⟨r1,r2,r3,r4,r5⟩:=kd_range _ g1
 obtain ⟨⟨c0,c1,c2,c3⟩,z0,z1,z3⟩:=rs.cells
 dsimp only at *
 have a0:=ua.1
 have a1:=ua.2
 have x0:=ux.1
 have x1:=ux.2
 obtain ⟨l0,l1,l2,l3⟩:=(row.keep rs.gr (by simp)).insn i1
 have lT:=rs.m.lt
 have HRS:Hid (RS w0 w T CB ⟨pc,a,x,cs⟩):=rs
 have HK:Hid ((kd (q (4*pc))).kind=8):=hk
 have HX:Hid ((kd (q (4*pc))).x=true):=hx
 clear hx
 have HA:Hid (∀ w,Calls Tryz.prog 84 #[.int .i64 (kd (q (4*pc))).o,.int .i64 a,.int .i64 x] w fun e w'=>e=.returned (.tuple #[.int .i64 (opr (kd (q (4*pc))).o a x),.bool true])∧w'=w):=fun w=>by have:=done_same (kd (q (4*pc))).o a x w (r4 HK.out) ua ux;rwa [hq] at this
 clear hq
 clear rs hk good g1 r1 r2 num
 go_enter Tryz.func75,Tryz.ntmps75
 go_wp2_with (go_at_call 48;refine (kind_at _ _).mono ?_;rw [HK.out];rw [HX.out];rintro e w1 ⟨rfl,hg1⟩;obtain ⟨b0,b1,b2,b3⟩:=box_four hg1 (by simp);have H1:=(HRS.out.allo _).keep hg1;obtain ⟨⟨d0,d1,d2,d3⟩,y0,y1,y3⟩:=H1.cells;dsimp only at d0 d1 d3;have l1T:=H1.m.lt;have l1C:=H1.cs.lt;have li:=alloc_lt hg1)
 go_region_with (go_at_call 84;refine (HA.out _).mono ?_;rintro e w2 ⟨rfl,rfl⟩)
 all_goals (first | exact ?main | refine ?main)
 go_wp2
 go_ret2
 exact ⟨rfl,by repeat (first | refine RS.drew ?_ | refine RS.allo ?_ _ | refine RS.drewN ?_ _ | refine RS.setA (S:=⟨pc+1,a,x,cs⟩) ?_ _ | exact (H1.setPc (pc+1) _ (by omega)))⟩
set_option maxHeartbeats 2000000 in
theorem rst_8tz (w0 w:World) (T CB lb loff n lc:Nat) (q:Nat→Int) (po:Option Addr) (m pcap:Nat) (p:Nat→Int) (S:Flt) (h:Fsp w0 w T CB lb loff n q po m p S) (hk:(kd (q (4*S.pc))).kind=8) (hx:(kd (q (4*S.pc))).x=true) (hq:div0 (kd (q (4*S.pc))).o S.x=true) :
  Calls Tryz.prog 75 #[.pointer (some ⟨T,0,none⟩),.slice (some ⟨lb,loff,none⟩) n lc,.slice po m pcap] w fun e w'=>e=.returned (.tuple #[.int .i64 0,.bool true])∧w0.grownBy w' none:=by
 obtain ⟨pc,a,x,cs⟩:=S
 obtain ⟨hn,hm,good,hp,inv,rs,row,src⟩:=h
 obtain ⟨i1,ua,ux,i4⟩:=inv
 obtain ⟨g1,g2,g3,g4,g5⟩:=good.at i1
 have num:=good.num
 have n1:=num (4*pc+1)
 have n2:=num (4*pc+2)
 have n3:=num (4*pc+3)
 have uk:U32 (q (4*pc+3)):=num_u32 num _
 obtain ⟨r1,r2,r3,r4,r5⟩:=kd_range _ g1
 obtain ⟨⟨c0,c1,c2,c3⟩,z0,z1,z3⟩:=rs.cells
 dsimp only at *
 have a0:=ua.1
 have a1:=ua.2
 have x0:=ux.1
 have x1:=ux.2
 obtain ⟨l0,l1,l2,l3⟩:=(row.keep rs.gr (by simp)).insn i1
 have lT:=rs.m.lt
 have HRS:Hid (RS w0 w T CB ⟨pc,a,x,cs⟩):=rs
 have HK:Hid ((kd (q (4*pc))).kind=8):=hk
 have HX:Hid ((kd (q (4*pc))).x=true):=hx
 clear hx
 have HA:Hid (∀ w,Calls Tryz.prog 84 #[.int .i64 (kd (q (4*pc))).o,.int .i64 a,.int .i64 x] w fun e w'=>e=.returned (.tuple #[.int .i64 (opr (kd (q (4*pc))).o a x),.bool false])∧w'=w):=fun w=>by have:=done_same (kd (q (4*pc))).o a x w (r4 HK.out) ua ux;rwa [hq] at this
 clear hq
 clear rs hk good g1 r1 r2 num
 go_enter Tryz.func75,Tryz.ntmps75
 go_wp2_with (go_at_call 48;refine (kind_at _ _).mono ?_;rw [HK.out];rw [HX.out];rintro e w1 ⟨rfl,hg1⟩;obtain ⟨b0,b1,b2,b3⟩:=box_four hg1 (by simp);have H1:=(HRS.out.allo _).keep hg1;obtain ⟨⟨d0,d1,d2,d3⟩,y0,y1,y3⟩:=H1.cells;dsimp only at d0 d1 d3;have l1T:=H1.m.lt;have l1C:=H1.cs.lt;have li:=alloc_lt hg1)
 go_region_with (go_at_call 84;refine (HA.out _).mono ?_;rintro e w2 ⟨rfl,rfl⟩)
 all_goals (first | exact ?main | refine ?main)
 go_wp2
 go_ret2
 exact ⟨rfl,by repeat (first | refine grown_drew ?_ | refine grown_alloc ?_ _ | refine grown_none ?_ (grown_drewN _ _ _) | exact (H1.setPc (pc+1) _ (by omega)).gr | exact ((H1.setPc (pc+1) _ (by omega)).setA _).gr | exact ((RS.drew (H1.setPc (pc+1) _ (by omega))).setA _).gr | exact ((RS.drewN (H1.setPc (pc+1) _ (by omega)) _).setA _).gr | exact ((RS.drewN (RS.allo (H1.setPc (pc+1) _ (by omega)) _) _).setA _).gr)⟩
end Go.Proofs.YthbcfepbkkbjiaaGreatDoor
namespace Go.Proofs.YthbcfepbkkbjiaaGreatDoor
open Go.RowKit
theorem rbytes_f (w0:World) (po:Option Addr) (m pcap:Nat) (p:Nat→Int) (F N:Int) (h0:0≤F) (hN:1≤N) (h4:N≤4) (hm:m≤2000) (hp:Oct p) (hs:Src w0 .u8 po m p) (h:F.toNat+N.toNat≤m) (w:World) (hg:w0.grownBy w none) :
  Calls Tryz.prog 83 #[.slice po m pcap,.int .i64 F,.int .i64 N] w fun e w'=>e=.returned (.tuple #[.int .i64 (be p F.toNat N.toNat),.bool true])∧w'=w:=by
 obtain ⟨b,off,rfl,hrow⟩:=hs (by omega)
 obtain ⟨f,rfl⟩:∃ f:Nat,F=f:=⟨F.toNat,by omega⟩
 obtain ⟨k,rfl⟩:∃ k:Nat,N=k:=⟨N.toNat,by omega⟩
 rw [Int.toNat_natCast,Int.toNat_natCast] at h ⊢
 exact rbytes_oks b off m pcap f k p w (by omega) (by unfold maxLen;omega) h hp (hrow.keep hg (by simp))
theorem rbytes_g (po:Option Addr) (m pcap:Nat) (F N:Int) (h0:0≤F) (hF:F≤8589934592) (hN:1≤N) (h4:N≤4) (hm:m≤2000) (h:¬ F.toNat+N.toNat≤m) (w:World) :
  Calls Tryz.prog 83 #[.slice po m pcap,.int .i64 F,.int .i64 N] w fun e w'=>e=.returned (.tuple #[.int .i64 0,.bool false])∧w'=w:=by
 obtain ⟨f,rfl⟩:∃ f:Nat,F=f:=⟨F.toNat,by omega⟩
 obtain ⟨k,rfl⟩:∃ k:Nat,N=k:=⟨N.toNat,by omega⟩
 rw [Int.toNat_natCast,Int.toNat_natCast] at h
 exact rbytes_nos po m pcap f k w (by unfold maxLen;omega) (by omega) (by omega) (by omega)
set_option maxHeartbeats 2000000 in
theorem rst_1fy (w0 w:World) (T CB lb loff n lc:Nat) (q:Nat→Int) (po:Option Addr) (m pcap:Nat) (p:Nat→Int) (S:Flt) (h:Fsp w0 w T CB lb loff n q po m p S) (hk:(kd (q (4*S.pc))).kind=1) (hx:(kd (q (4*S.pc))).x=false) (hq:(q (4*S.pc+3)).toNat+(kd (q (4*S.pc))).n.toNat≤m) :
  Calls Tryz.prog 75 #[.pointer (some ⟨T,0,none⟩),.slice (some ⟨lb,loff,none⟩) n lc,.slice po m pcap] w fun e w'=>e=.returned (.tuple #[.int .i64 0,.bool false])∧RS w0 w' T CB ⟨S.pc+1,be p (q (4*S.pc+3)).toNat (kd (q (4*S.pc))).n.toNat,S.x,S.cs⟩:=by
 obtain ⟨pc,a,x,cs⟩:=S
 obtain ⟨hn,hm,good,hp,inv,rs,row,src⟩:=h
 obtain ⟨i1,ua,ux,i4⟩:=inv
 obtain ⟨g1,g2,g3,g4,g5⟩:=good.at i1
 have num:=good.num
 have n1:=num (4*pc+1)
 have n2:=num (4*pc+2)
 have n3:=num (4*pc+3)
 have uk:U32 (q (4*pc+3)):=num_u32 num _
 obtain ⟨r1,r2,r3,r4,r5⟩:=kd_range _ g1
 obtain ⟨⟨c0,c1,c2,c3⟩,z0,z1,z3⟩:=rs.cells
 dsimp only at *
 have a0:=ua.1
 have a1:=ua.2
 have x0:=ux.1
 have x1:=ux.2
 obtain ⟨l0,l1,l2,l3⟩:=(row.keep rs.gr (by simp)).insn i1
 have lT:=rs.m.lt
 have HRS:Hid (RS w0 w T CB ⟨pc,a,x,cs⟩):=rs
 have HK:Hid ((kd (q (4*pc))).kind=1):=hk
 have HX:Hid ((kd (q (4*pc))).x=false):=hx
 clear hx
 have r3:=r3 HK.out
 have HA:Hid (∀ w,w0.grownBy w none→Calls Tryz.prog 83 #[.slice po m pcap,.int .i64 (q (4*pc+3)),.int .i64 (kd (q (4*pc))).n] w fun e w'=>e=.returned (.tuple #[.int .i64 (be p (q (4*pc+3)).toNat (kd (q (4*pc))).n.toNat),.bool true])∧w'=w):=fun w hg=>rbytes_f w0 po m pcap p _ _ (by omega) (by omega) (by omega) hm hp src hq w hg
 clear hq
 clear r3 r4 r5
 clear rs hk good g1 r1 r2 num
 go_enter Tryz.func75,Tryz.ntmps75
 go_wp2_with (first | (go_at_call 48;refine (kind_at _ _).mono ?_;rw [HK.out];rw [HX.out];rintro e w1 ⟨rfl,hg1⟩;obtain ⟨b0,b1,b2,b3⟩:=box_four hg1 (by simp);have H1:=(HRS.out.allo _).keep hg1;obtain ⟨⟨d0,d1,d2,d3⟩,y0,y1,y3⟩:=H1.cells;dsimp only at d0 d1 d3;have l1T:=H1.m.lt;have l1C:=H1.cs.lt;have li:=alloc_lt hg1) | (go_at_call 83;refine (HA.out _ (RS.gr (T:=T) (CB:=CB) (S:=⟨pc+1,a,x,cs⟩) (by repeat (first | refine RS.drew ?_ | refine RS.allo ?_ _ | refine RS.drewN ?_ _ | exact (H1.setPc (pc+1) _ (by omega)))))).mono ?_;rintro e w2 ⟨rfl,rfl⟩))
 go_ret2
 exact ⟨rfl,by repeat (first | refine RS.drew ?_ | refine RS.allo ?_ _ | refine RS.drewN ?_ _ | refine RS.setA (S:=⟨pc+1,a,x,cs⟩) ?_ _ | exact (H1.setPc (pc+1) _ (by omega)))⟩
set_option maxHeartbeats 2000000 in
theorem rst_1fn (w0 w:World) (T CB lb loff n lc:Nat) (q:Nat→Int) (po:Option Addr) (m pcap:Nat) (p:Nat→Int) (S:Flt) (h:Fsp w0 w T CB lb loff n q po m p S) (hk:(kd (q (4*S.pc))).kind=1) (hx:(kd (q (4*S.pc))).x=false) (hq:¬ (q (4*S.pc+3)).toNat+(kd (q (4*S.pc))).n.toNat≤m) :
  Calls Tryz.prog 75 #[.pointer (some ⟨T,0,none⟩),.slice (some ⟨lb,loff,none⟩) n lc,.slice po m pcap] w fun e w'=>e=.returned (.tuple #[.int .i64 0,.bool true])∧w0.grownBy w' none:=by
 obtain ⟨pc,a,x,cs⟩:=S
 obtain ⟨hn,hm,good,hp,inv,rs,row,src⟩:=h
 obtain ⟨i1,ua,ux,i4⟩:=inv
 obtain ⟨g1,g2,g3,g4,g5⟩:=good.at i1
 have num:=good.num
 have n1:=num (4*pc+1)
 have n2:=num (4*pc+2)
 have n3:=num (4*pc+3)
 have uk:U32 (q (4*pc+3)):=num_u32 num _
 obtain ⟨r1,r2,r3,r4,r5⟩:=kd_range _ g1
 obtain ⟨⟨c0,c1,c2,c3⟩,z0,z1,z3⟩:=rs.cells
 dsimp only at *
 have a0:=ua.1
 have a1:=ua.2
 have x0:=ux.1
 have x1:=ux.2
 obtain ⟨l0,l1,l2,l3⟩:=(row.keep rs.gr (by simp)).insn i1
 have lT:=rs.m.lt
 have HRS:Hid (RS w0 w T CB ⟨pc,a,x,cs⟩):=rs
 have HK:Hid ((kd (q (4*pc))).kind=1):=hk
 have HX:Hid ((kd (q (4*pc))).x=false):=hx
 clear hx
 have r3:=r3 HK.out
 have HA:Hid (∀ w,w0.grownBy w none→Calls Tryz.prog 83 #[.slice po m pcap,.int .i64 (q (4*pc+3)),.int .i64 (kd (q (4*pc))).n] w fun e w'=>e=.returned (.tuple #[.int .i64 (0),.bool false])∧w'=w):=fun w hg=>rbytes_g po m pcap _ _ (by omega) (by omega) (by omega) (by omega) hm hq w
 clear hq
 clear r3 r4 r5
 clear rs hk good g1 r1 r2 num
 go_enter Tryz.func75,Tryz.ntmps75
 go_wp2_with (first | (go_at_call 48;refine (kind_at _ _).mono ?_;rw [HK.out];rw [HX.out];rintro e w1 ⟨rfl,hg1⟩;obtain ⟨b0,b1,b2,b3⟩:=box_four hg1 (by simp);have H1:=(HRS.out.allo _).keep hg1;obtain ⟨⟨d0,d1,d2,d3⟩,y0,y1,y3⟩:=H1.cells;dsimp only at d0 d1 d3;have l1T:=H1.m.lt;have l1C:=H1.cs.lt;have li:=alloc_lt hg1) | (go_at_call 83;refine (HA.out _ (RS.gr (T:=T) (CB:=CB) (S:=⟨pc+1,a,x,cs⟩) (by repeat (first | refine RS.drew ?_ | refine RS.allo ?_ _ | refine RS.drewN ?_ _ | exact (H1.setPc (pc+1) _ (by omega)))))).mono ?_;rintro e w2 ⟨rfl,rfl⟩))
 go_ret2
 exact ⟨rfl,by repeat (first | refine grown_drew ?_ | refine grown_alloc ?_ _ | refine grown_none ?_ (grown_drewN _ _ _) | exact (H1.setPc (pc+1) _ (by omega)).gr | exact ((H1.setPc (pc+1) _ (by omega)).setA _).gr | exact ((RS.drew (H1.setPc (pc+1) _ (by omega))).setA _).gr | exact ((RS.drewN (H1.setPc (pc+1) _ (by omega)) _).setA _).gr | exact ((RS.drewN (RS.allo (H1.setPc (pc+1) _ (by omega)) _) _).setA _).gr)⟩
set_option maxHeartbeats 2000000 in
theorem rst_1ty (w0 w:World) (T CB lb loff n lc:Nat) (q:Nat→Int) (po:Option Addr) (m pcap:Nat) (p:Nat→Int) (S:Flt) (h:Fsp w0 w T CB lb loff n q po m p S) (hk:(kd (q (4*S.pc))).kind=1) (hx:(kd (q (4*S.pc))).x=true) (hq:(q (4*S.pc+3)+S.x).toNat+(kd (q (4*S.pc))).n.toNat≤m) :
  Calls Tryz.prog 75 #[.pointer (some ⟨T,0,none⟩),.slice (some ⟨lb,loff,none⟩) n lc,.slice po m pcap] w fun e w'=>e=.returned (.tuple #[.int .i64 0,.bool false])∧RS w0 w' T CB ⟨S.pc+1,be p (q (4*S.pc+3)+S.x).toNat (kd (q (4*S.pc))).n.toNat,S.x,S.cs⟩:=by
 obtain ⟨pc,a,x,cs⟩:=S
 obtain ⟨hn,hm,good,hp,inv,rs,row,src⟩:=h
 obtain ⟨i1,ua,ux,i4⟩:=inv
 obtain ⟨g1,g2,g3,g4,g5⟩:=good.at i1
 have num:=good.num
 have n1:=num (4*pc+1)
 have n2:=num (4*pc+2)
 have n3:=num (4*pc+3)
 have uk:U32 (q (4*pc+3)):=num_u32 num _
 obtain ⟨r1,r2,r3,r4,r5⟩:=kd_range _ g1
 obtain ⟨⟨c0,c1,c2,c3⟩,z0,z1,z3⟩:=rs.cells
 dsimp only at *
 have a0:=ua.1
 have a1:=ua.2
 have x0:=ux.1
 have x1:=ux.2
 obtain ⟨l0,l1,l2,l3⟩:=(row.keep rs.gr (by simp)).insn i1
 have lT:=rs.m.lt
 have HRS:Hid (RS w0 w T CB ⟨pc,a,x,cs⟩):=rs
 have HK:Hid ((kd (q (4*pc))).kind=1):=hk
 have HX:Hid ((kd (q (4*pc))).x=true):=hx
 clear hx
 have r3:=r3 HK.out
 have HA:Hid (∀ w,w0.grownBy w none→Calls Tryz.prog 83 #[.slice po m pcap,.int .i64 (q (4*pc+3)+x),.int .i64 (kd (q (4*pc))).n] w fun e w'=>e=.returned (.tuple #[.int .i64 (be p (q (4*pc+3)+x).toNat (kd (q (4*pc))).n.toNat),.bool true])∧w'=w):=fun w hg=>rbytes_f w0 po m pcap p _ _ (by omega) (by omega) (by omega) hm hp src hq w hg
 clear hq
 clear r3 r4 r5
 clear rs hk good g1 r1 r2 num
 go_enter Tryz.func75,Tryz.ntmps75
 go_wp2_with (first | (go_at_call 48;refine (kind_at _ _).mono ?_;rw [HK.out];rw [HX.out];rintro e w1 ⟨rfl,hg1⟩;obtain ⟨b0,b1,b2,b3⟩:=box_four hg1 (by simp);have H1:=(HRS.out.allo _).keep hg1;obtain ⟨⟨d0,d1,d2,d3⟩,y0,y1,y3⟩:=H1.cells;dsimp only at d0 d1 d3;have l1T:=H1.m.lt;have l1C:=H1.cs.lt;have li:=alloc_lt hg1) | (go_at_call 83;refine (HA.out _ (RS.gr (T:=T) (CB:=CB) (S:=⟨pc+1,a,x,cs⟩) (by repeat (first | refine RS.drew ?_ | refine RS.allo ?_ _ | refine RS.drewN ?_ _ | exact (H1.setPc (pc+1) _ (by omega)))))).mono ?_;rintro e w2 ⟨rfl,rfl⟩))
 go_ret2
 exact ⟨rfl,by repeat (first | refine RS.drew ?_ | refine RS.allo ?_ _ | refine RS.drewN ?_ _ | refine RS.setA (S:=⟨pc+1,a,x,cs⟩) ?_ _ | exact (H1.setPc (pc+1) _ (by omega)))⟩
set_option maxHeartbeats 2000000 in
theorem rst_1tn (w0 w:World) (T CB lb loff n lc:Nat) (q:Nat→Int) (po:Option Addr) (m pcap:Nat) (p:Nat→Int) (S:Flt) (h:Fsp w0 w T CB lb loff n q po m p S) (hk:(kd (q (4*S.pc))).kind=1) (hx:(kd (q (4*S.pc))).x=true) (hq:¬ (q (4*S.pc+3)+S.x).toNat+(kd (q (4*S.pc))).n.toNat≤m) :
  Calls Tryz.prog 75 #[.pointer (some ⟨T,0,none⟩),.slice (some ⟨lb,loff,none⟩) n lc,.slice po m pcap] w fun e w'=>e=.returned (.tuple #[.int .i64 0,.bool true])∧w0.grownBy w' none:=by
 obtain ⟨pc,a,x,cs⟩:=S
 obtain ⟨hn,hm,good,hp,inv,rs,row,src⟩:=h
 obtain ⟨i1,ua,ux,i4⟩:=inv
 obtain ⟨g1,g2,g3,g4,g5⟩:=good.at i1
 have num:=good.num
 have n1:=num (4*pc+1)
 have n2:=num (4*pc+2)
 have n3:=num (4*pc+3)
 have uk:U32 (q (4*pc+3)):=num_u32 num _
 obtain ⟨r1,r2,r3,r4,r5⟩:=kd_range _ g1
 obtain ⟨⟨c0,c1,c2,c3⟩,z0,z1,z3⟩:=rs.cells
 dsimp only at *
 have a0:=ua.1
 have a1:=ua.2
 have x0:=ux.1
 have x1:=ux.2
 obtain ⟨l0,l1,l2,l3⟩:=(row.keep rs.gr (by simp)).insn i1
 have lT:=rs.m.lt
 have HRS:Hid (RS w0 w T CB ⟨pc,a,x,cs⟩):=rs
 have HK:Hid ((kd (q (4*pc))).kind=1):=hk
 have HX:Hid ((kd (q (4*pc))).x=true):=hx
 clear hx
 have r3:=r3 HK.out
 have HA:Hid (∀ w,w0.grownBy w none→Calls Tryz.prog 83 #[.slice po m pcap,.int .i64 (q (4*pc+3)+x),.int .i64 (kd (q (4*pc))).n] w fun e w'=>e=.returned (.tuple #[.int .i64 (0),.bool false])∧w'=w):=fun w hg=>rbytes_g po m pcap _ _ (by omega) (by omega) (by omega) (by omega) hm hq w
 clear hq
 clear r3 r4 r5
 clear rs hk good g1 r1 r2 num
 go_enter Tryz.func75,Tryz.ntmps75
 go_wp2_with (first | (go_at_call 48;refine (kind_at _ _).mono ?_;rw [HK.out];rw [HX.out];rintro e w1 ⟨rfl,hg1⟩;obtain ⟨b0,b1,b2,b3⟩:=box_four hg1 (by simp);have H1:=(HRS.out.allo _).keep hg1;obtain ⟨⟨d0,d1,d2,d3⟩,y0,y1,y3⟩:=H1.cells;dsimp only at d0 d1 d3;have l1T:=H1.m.lt;have l1C:=H1.cs.lt;have li:=alloc_lt hg1) | (go_at_call 83;refine (HA.out _ (RS.gr (T:=T) (CB:=CB) (S:=⟨pc+1,a,x,cs⟩) (by repeat (first | refine RS.drew ?_ | refine RS.allo ?_ _ | refine RS.drewN ?_ _ | exact (H1.setPc (pc+1) _ (by omega)))))).mono ?_;rintro e w2 ⟨rfl,rfl⟩))
 go_ret2
 exact ⟨rfl,by repeat (first | refine grown_drew ?_ | refine grown_alloc ?_ _ | refine grown_none ?_ (grown_drewN _ _ _) | exact (H1.setPc (pc+1) _ (by omega)).gr | exact ((H1.setPc (pc+1) _ (by omega)).setA _).gr | exact ((RS.drew (H1.setPc (pc+1) _ (by omega))).setA _).gr | exact ((RS.drewN (H1.setPc (pc+1) _ (by omega)) _).setA _).gr | exact ((RS.drewN (RS.allo (H1.setPc (pc+1) _ (by omega)) _) _).setA _).gr)⟩
set_option maxHeartbeats 2000000 in
theorem rst_5y (w0 w:World) (T CB lb loff n lc:Nat) (q:Nat→Int) (po:Option Addr) (m pcap:Nat) (p:Nat→Int) (S:Flt) (h:Fsp w0 w T CB lb loff n q po m p S) (hk:(kd (q (4*S.pc))).kind=5) (hx:(kd (q (4*S.pc))).x=false) (hq:(q (4*S.pc+3)).toNat+1≤m) :
  Calls Tryz.prog 75 #[.pointer (some ⟨T,0,none⟩),.slice (some ⟨lb,loff,none⟩) n lc,.slice po m pcap] w fun e w'=>e=.returned (.tuple #[.int .i64 0,.bool false])∧RS w0 w' T CB ⟨S.pc+1,S.a,p (q (4*S.pc+3)).toNat%16*4,S.cs⟩:=by
 obtain ⟨pc,a,x,cs⟩:=S
 obtain ⟨hn,hm,good,hp,inv,rs,row,src⟩:=h
 obtain ⟨i1,ua,ux,i4⟩:=inv
 obtain ⟨g1,g2,g3,g4,g5⟩:=good.at i1
 have num:=good.num
 have n1:=num (4*pc+1)
 have n2:=num (4*pc+2)
 have n3:=num (4*pc+3)
 have uk:U32 (q (4*pc+3)):=num_u32 num _
 obtain ⟨r1,r2,r3,r4,r5⟩:=kd_range _ g1
 obtain ⟨⟨c0,c1,c2,c3⟩,z0,z1,z3⟩:=rs.cells
 dsimp only at *
 have a0:=ua.1
 have a1:=ua.2
 have x0:=ux.1
 have x1:=ux.2
 obtain ⟨l0,l1,l2,l3⟩:=(row.keep rs.gr (by simp)).insn i1
 have lT:=rs.m.lt
 have HRS:Hid (RS w0 w T CB ⟨pc,a,x,cs⟩):=rs
 have HK:Hid ((kd (q (4*pc))).kind=5):=hk
 have HX:Hid ((kd (q (4*pc))).x=false):=hx
 clear hx
 have HA:Hid (∀ w,w0.grownBy w none→Calls Tryz.prog 83 #[.slice po m pcap,.int .i64 (q (4*pc+3)),.int .i64 1] w fun e w'=>e=.returned (.tuple #[.int .i64 ((p (q (4*pc+3)).toNat)),.bool true])∧w'=w):=fun w hg=>by have:=rbytes_f w0 po m pcap p _ 1 n3.1 (by omega) (by omega) hm hp src hq w hg;rwa [show be p (q (4*pc+3)).toNat (1:Int).toNat=p (q (4*pc+3)).toNat from be_one p _] at this
 clear hq
 clear r3 r4 r5
 have pk:=hp (q (4*pc+3)).toNat
 clear rs hk good g1 r1 r2 num
 go_enter Tryz.func75,Tryz.ntmps75
 go_wp2_with (first | (go_at_call 48;refine (kind_at _ _).mono ?_;rw [HK.out];rw [HX.out];rintro e w1 ⟨rfl,hg1⟩;obtain ⟨b0,b1,b2,b3⟩:=box_four hg1 (by simp);have H1:=(HRS.out.allo _).keep hg1;obtain ⟨⟨d0,d1,d2,d3⟩,y0,y1,y3⟩:=H1.cells;dsimp only at d0 d1 d3;have l1T:=H1.m.lt;have l1C:=H1.cs.lt;have li:=alloc_lt hg1) | (go_at_call 83;refine (HA.out _ (RS.gr (T:=T) (CB:=CB) (S:=⟨pc+1,a,x,cs⟩) (by repeat (first | refine RS.drew ?_ | refine RS.allo ?_ _ | refine RS.drewN ?_ _ | exact (H1.setPc (pc+1) _ (by omega)))))).mono ?_;rintro e w2 ⟨rfl,rfl⟩))
 go_ret2
 exact ⟨rfl,by repeat (first | refine RS.drew ?_ | refine RS.allo ?_ _ | refine RS.drewN ?_ _ | refine RS.setX (S:=⟨pc+1,a,x,cs⟩) ?_ _ | exact (H1.setPc (pc+1) _ (by omega)))⟩
set_option maxHeartbeats 2000000 in
theorem rst_5n (w0 w:World) (T CB lb loff n lc:Nat) (q:Nat→Int) (po:Option Addr) (m pcap:Nat) (p:Nat→Int) (S:Flt) (h:Fsp w0 w T CB lb loff n q po m p S) (hk:(kd (q (4*S.pc))).kind=5) (hx:(kd (q (4*S.pc))).x=false) (hq:¬ (q (4*S.pc+3)).toNat+1≤m) :
  Calls Tryz.prog 75 #[.pointer (some ⟨T,0,none⟩),.slice (some ⟨lb,loff,none⟩) n lc,.slice po m pcap] w fun e w'=>e=.returned (.tuple #[.int .i64 0,.bool true])∧w0.grownBy w' none:=by
 obtain ⟨pc,a,x,cs⟩:=S
 obtain ⟨hn,hm,good,hp,inv,rs,row,src⟩:=h
 obtain ⟨i1,ua,ux,i4⟩:=inv
 obtain ⟨g1,g2,g3,g4,g5⟩:=good.at i1
 have num:=good.num
 have n1:=num (4*pc+1)
 have n2:=num (4*pc+2)
 have n3:=num (4*pc+3)
 have uk:U32 (q (4*pc+3)):=num_u32 num _
 obtain ⟨r1,r2,r3,r4,r5⟩:=kd_range _ g1
 obtain ⟨⟨c0,c1,c2,c3⟩,z0,z1,z3⟩:=rs.cells
 dsimp only at *
 have a0:=ua.1
 have a1:=ua.2
 have x0:=ux.1
 have x1:=ux.2
 obtain ⟨l0,l1,l2,l3⟩:=(row.keep rs.gr (by simp)).insn i1
 have lT:=rs.m.lt
 have HRS:Hid (RS w0 w T CB ⟨pc,a,x,cs⟩):=rs
 have HK:Hid ((kd (q (4*pc))).kind=5):=hk
 have HX:Hid ((kd (q (4*pc))).x=false):=hx
 clear hx
 have HA:Hid (∀ w,w0.grownBy w none→Calls Tryz.prog 83 #[.slice po m pcap,.int .i64 (q (4*pc+3)),.int .i64 1] w fun e w'=>e=.returned (.tuple #[.int .i64 (0),.bool false])∧w'=w):=fun w hg=>rbytes_g po m pcap _ 1 n3.1 (by omega) (by omega) (by omega) hm hq w
 clear hq
 clear r3 r4 r5
 clear rs hk good g1 r1 r2 num
 go_enter Tryz.func75,Tryz.ntmps75
 go_wp2_with (first | (go_at_call 48;refine (kind_at _ _).mono ?_;rw [HK.out];rw [HX.out];rintro e w1 ⟨rfl,hg1⟩;obtain ⟨b0,b1,b2,b3⟩:=box_four hg1 (by simp);have H1:=(HRS.out.allo _).keep hg1;obtain ⟨⟨d0,d1,d2,d3⟩,y0,y1,y3⟩:=H1.cells;dsimp only at d0 d1 d3;have l1T:=H1.m.lt;have l1C:=H1.cs.lt;have li:=alloc_lt hg1) | (go_at_call 83;refine (HA.out _ (RS.gr (T:=T) (CB:=CB) (S:=⟨pc+1,a,x,cs⟩) (by repeat (first | refine RS.drew ?_ | refine RS.allo ?_ _ | refine RS.drewN ?_ _ | exact (H1.setPc (pc+1) _ (by omega)))))).mono ?_;rintro e w2 ⟨rfl,rfl⟩))
 go_ret2
 exact ⟨rfl,by repeat (first | refine grown_drew ?_ | refine grown_alloc ?_ _ | refine grown_none ?_ (grown_drewN _ _ _) | exact (H1.setPc (pc+1) _ (by omega)).gr | exact ((H1.setPc (pc+1) _ (by omega)).setX _).gr | exact ((RS.drew (H1.setPc (pc+1) _ (by omega))).setX _).gr | exact ((RS.drewN (H1.setPc (pc+1) _ (by omega)) _).setX _).gr | exact (RS.setX (RS.allo (H1.setPc (pc+1) _ (by omega)) _) _).gr | exact ((RS.drewN (RS.allo (H1.setPc (pc+1) _ (by omega)) _) _).setX _).gr)⟩
set_option maxHeartbeats 2000000 in
theorem rst_6f (w0 w:World) (T CB lb loff n lc:Nat) (q:Nat→Int) (po:Option Addr) (m pcap:Nat) (p:Nat→Int) (S:Flt) (h:Fsp w0 w T CB lb loff n q po m p S) (hk:(kd (q (4*S.pc))).kind=6) (hx:(kd (q (4*S.pc))).x=false) :
  Calls Tryz.prog 75 #[.pointer (some ⟨T,0,none⟩),.slice (some ⟨lb,loff,none⟩) n lc,.slice po m pcap] w fun e w'=>e=.returned (.tuple #[.int .i64 0,.bool false])∧RS w0 w' T CB ⟨S.pc+1,S.a,S.x,upd S.cs (q (4*S.pc+3)).toNat S.a⟩:=by
 obtain ⟨pc,a,x,cs⟩:=S
 obtain ⟨hn,hm,good,hp,inv,rs,row,src⟩:=h
 obtain ⟨i1,ua,ux,i4⟩:=inv
 obtain ⟨g1,g2,g3,g4,g5⟩:=good.at i1
 have num:=good.num
 have n1:=num (4*pc+1)
 have n2:=num (4*pc+2)
 have n3:=num (4*pc+3)
 have uk:U32 (q (4*pc+3)):=num_u32 num _
 obtain ⟨r1,r2,r3,r4,r5⟩:=kd_range _ g1
 obtain ⟨⟨c0,c1,c2,c3⟩,z0,z1,z3⟩:=rs.cells
 dsimp only at *
 have a0:=ua.1
 have a1:=ua.2
 have x0:=ux.1
 have x1:=ux.2
 obtain ⟨l0,l1,l2,l3⟩:=(row.keep rs.gr (by simp)).insn i1
 have lT:=rs.m.lt
 have HRS:Hid (RS w0 w T CB ⟨pc,a,x,cs⟩):=rs
 have HK:Hid ((kd (q (4*pc))).kind=6):=hk
 have HX:Hid ((kd (q (4*pc))).x=false):=hx
 clear hx
 have g2:=g2 (Or.inr HK.out)
 clear rs hk good g1 r1 r2 num
 go_enter Tryz.func75,Tryz.ntmps75
 go_wp2_with (go_at_call 48;refine (kind_at _ _).mono ?_;rw [HK.out];rw [HX.out];rintro e w1 ⟨rfl,hg1⟩;obtain ⟨b0,b1,b2,b3⟩:=box_four hg1 (by simp);have H1:=(HRS.out.allo _).keep hg1;obtain ⟨⟨d0,d1,d2,d3⟩,y0,y1,y3⟩:=H1.cells;dsimp only at d0 d1 d3;have l1T:=H1.m.lt;have l1C:=H1.cs.lt;have li:=alloc_lt hg1)
 have HP:=H1.setPc (pc+1) ((pc:Int)+1) (by omega)
 have dk:(w1.setCell ⟨T,3,none⟩ (.int .i64 ((pc:Int)+1))).cell? ⟨CB,(q (4*pc+3)).toNat,none⟩=some (.int .i64 (cs (q (4*pc+3)).toNat)):=HP.cs.cell (by omega)
 have yk:=HP.cs.frozen (q (4*pc+3)).toNat
 have ne:=HRS.out.ne
 go_region
 all_goals go_wp2
 go_ret2
 exact ⟨rfl,by repeat (first | refine RS.drew ?_ | refine RS.allo ?_ _ | refine RS.drewN ?_ _ | refine RS.setCs (S:=⟨pc+1,a,x,cs⟩) ?_ _ (by omega) _ | exact (H1.setPc (pc+1) _ (by omega)))⟩
set_option maxHeartbeats 2000000 in
theorem rst_6t (w0 w:World) (T CB lb loff n lc:Nat) (q:Nat→Int) (po:Option Addr) (m pcap:Nat) (p:Nat→Int) (S:Flt) (h:Fsp w0 w T CB lb loff n q po m p S) (hk:(kd (q (4*S.pc))).kind=6) (hx:(kd (q (4*S.pc))).x=true) :
  Calls Tryz.prog 75 #[.pointer (some ⟨T,0,none⟩),.slice (some ⟨lb,loff,none⟩) n lc,.slice po m pcap] w fun e w'=>e=.returned (.tuple #[.int .i64 0,.bool false])∧RS w0 w' T CB ⟨S.pc+1,S.a,S.x,upd S.cs (q (4*S.pc+3)).toNat S.x⟩:=by
 obtain ⟨pc,a,x,cs⟩:=S
 obtain ⟨hn,hm,good,hp,inv,rs,row,src⟩:=h
 obtain ⟨i1,ua,ux,i4⟩:=inv
 obtain ⟨g1,g2,g3,g4,g5⟩:=good.at i1
 have num:=good.num
 have n1:=num (4*pc+1)
 have n2:=num (4*pc+2)
 have n3:=num (4*pc+3)
 have uk:U32 (q (4*pc+3)):=num_u32 num _
 obtain ⟨r1,r2,r3,r4,r5⟩:=kd_range _ g1
 obtain ⟨⟨c0,c1,c2,c3⟩,z0,z1,z3⟩:=rs.cells
 dsimp only at *
 have a0:=ua.1
 have a1:=ua.2
 have x0:=ux.1
 have x1:=ux.2
 obtain ⟨l0,l1,l2,l3⟩:=(row.keep rs.gr (by simp)).insn i1
 have lT:=rs.m.lt
 have HRS:Hid (RS w0 w T CB ⟨pc,a,x,cs⟩):=rs
 have HK:Hid ((kd (q (4*pc))).kind=6):=hk
 have HX:Hid ((kd (q (4*pc))).x=true):=hx
 clear hx
 have g2:=g2 (Or.inr HK.out)
 clear rs hk good g1 r1 r2 num
 go_enter Tryz.func75,Tryz.ntmps75
 go_wp2_with (go_at_call 48;refine (kind_at _ _).mono ?_;rw [HK.out];rw [HX.out];rintro e w1 ⟨rfl,hg1⟩;obtain ⟨b0,b1,b2,b3⟩:=box_four hg1 (by simp);have H1:=(HRS.out.allo _).keep hg1;obtain ⟨⟨d0,d1,d2,d3⟩,y0,y1,y3⟩:=H1.cells;dsimp only at d0 d1 d3;have l1T:=H1.m.lt;have l1C:=H1.cs.lt;have li:=alloc_lt hg1)
 have HP:=H1.setPc (pc+1) ((pc:Int)+1) (by omega)
 have dk:(w1.setCell ⟨T,3,none⟩ (.int .i64 ((pc:Int)+1))).cell? ⟨CB,(q (4*pc+3)).toNat,none⟩=some (.int .i64 (cs (q (4*pc+3)).toNat)):=HP.cs.cell (by omega)
 have yk:=HP.cs.frozen (q (4*pc+3)).toNat
 have ne:=HRS.out.ne
 go_region
 all_goals go_wp2
 have lCw:=HRS.out.cs.lt
 have HQ:=HP.setCs (q (4*pc+3)).toNat (by omega) a
 obtain ⟨⟨e0,e1,e2,e3⟩,x0,x1,x3⟩:=HQ.cells
 have ek:=HQ.cs.cell (j:=(q (4*pc+3)).toNat) (by omega)
 have xk:=HQ.cs.frozen (q (4*pc+3)).toNat
 go_region
 all_goals go_wp2
 have HZ:=HQ.setCs (q (4*pc+3)).toNat (by omega) x
 rw [show upd (upd cs (q (4*pc+3)).toNat a) (q (4*pc+3)).toNat x=upd cs (q (4*pc+3)).toNat x from funext fun j=>by unfold upd;split <;> rfl] at HZ
 go_ret2
 exact ⟨rfl,RS.drew (RS.drew (RS.allo HZ _))⟩
end Go.Proofs.YthbcfepbkkbjiaaGreatDoor
