import Derived.Test.YthbcfepbkkbjiaaGreatDoorID1
set_option linter.unusedSimpArgs false
set_option linter.unusedVariables false
set_option maxRecDepth 100000
namespace Go.Proofs.YthbcfepbkkbjiaaGreatDoor
open Go.RowKit
set_option maxHeartbeats 1000000 in
theorem cf_76 (w0 w:World) (M KB SB OB UB:Nat) (cv sv gv:Value) (l ss:List Int) (gs:List (Int × Int)) (jt jf k:Int) (h:CM w0 w M KB SB OB UB cv sv gv l ss gs) (hl:l.length≤80000) (uk:U32 k) :
  Calls Tryz.prog 115 #[.pointer (some ⟨M,0,none⟩),.agg #[.int .i64 76,.int .i64 jt,.int .i64 jf,.int .i64 k]] w fun e w'=>e=.returned (.tuple #[])∧∃ cv',CM w0 w' M KB SB OB UB cv' sv gv (l++piece (kd 76) k 0 0) ss gs:=by
 obtain ⟨c0,c1,c2,c3,c4,c5,c6⟩:=h.cells
 have lM:=h.m.lt
 obtain ⟨k0,k1⟩:=uk
 have H0:=h.allo (.cells #[.int .i64 76,.int .i64 jt,.int .i64 jf,.int .i64 k] 63)
 have B0:=box_new h (.int .i64 76) (.int .i64 jt) (.int .i64 jf) (.int .i64 k) 63
 have HW:Hid (∀ (B:Nat) (cv:Value) w',CM w0 w' M KB SB OB UB cv sv gv (l) ss gs→Pcs w' B [pC (16),pC (17),[4,5],oC (16)]→Calls Tryz.prog 147 #[.pointer (some ⟨M,0,none⟩),.slice (some ⟨B,0,none⟩) 4 4] w' fun e w''=>e=.returned (.tuple #[])∧∃ cv',CM w0 w'' M KB SB OB UB cv' sv gv (l++piece (kd 76) k 0 0) ss gs∧∀ B a b c d,BoxS w' M cv gv B a b c d→BoxS w'' M cv' gv B a b c d):=fun B cv w' h1 h2=>cwriteB w0 w' M KB SB OB UB cv sv gv (l) ss gs B 4 [pC (16),pC (17),[4,5],oC (16)] h1 (by simp) (by simp) (by simp [pW,pC,oC]) (by simp [pW,pC,oC]) (by first | omega | (simp [pW,pC,oC];omega)) h2
 clear h
 go_enter Tryz.func115,Tryz.ntmps115
 go_wp2_with (go_at_call 144;refine (pceN (n:=5) (cpushWord (k) _ k0) rfl).mono ?_;rintro e w1 ⟨a1,b1,rfl,p1,g1⟩;have H1:=H0.keep g1;have B1:=B0.keep g1;have ⟨_,_,_,x0,x1,x2,x3⟩:=B1;go_wp2_with (go_at_call 146;refine (pceN (n:=2) (cpushCell (17) _ (by omega)) rfl).mono ?_;rintro e w2 ⟨a2,b2,rfl,p2,g2⟩;have H2:=H1.keep g2;have B2:=B1.keep g2;have ⟨_,_,_,x0,x1,x2,x3⟩:=B2))
 have HS:w2.drew.cell? ⟨M,5,none⟩=some (.map (some OB))∧w2.drew.cell? ⟨w.heap.size,0,none⟩=some (.int .i64 76)∧(Instr.lookup 127 (.map (some OB)) (.int .i64 76) false).run Tryz.prog w2.drew=.ok (.int .i64 5) w2.drew:=⟨H2.drew.cells.2.2.2.2.2.1,(B2.keep (grown_drew (grown_refl _ _))).2.2.2.1,clook_op H2.drew.io rfl⟩
 go_region_held3 (fun w'=>w'.cell? ⟨M,5,none⟩=some (.map (some OB))∧w'.cell? ⟨w.heap.size,0,none⟩=some (.int .i64 76)∧(Instr.lookup 127 (.map (some OB)) (.int .i64 76) false).run Tryz.prog w'=.ok (.int .i64 5) w')
  (first | exact HS | assumption | exact ⟨(H5.allo _).cells.2.2.2.2.2.1,(B5.keep (World.grownBy_alloc _ _ none)).2.2.2.1,clook_op (H5.allo _).io rfl⟩)
  ((first | (go_at_call 146;refine (pceN (n:=2) (cpushCell (16) _ (by omega)) rfl).mono ?_;rintro e w3 ⟨a3,b3,rfl,p3,g3⟩;have H3:=H2.drew.keep g3;have B3:=(B2.keep (grown_drew (grown_refl _ _))).keep g3;have ⟨_,_,_,x0,x1,x2,x3⟩:=B3;have S3:w3.cell? ⟨M,5,none⟩=some (.map (some OB))∧w3.cell? ⟨w.heap.size,0,none⟩=some (.int .i64 76)∧(Instr.lookup 127 (.map (some OB)) (.int .i64 76) false).run Tryz.prog w3=.ok (.int .i64 5) w3:=⟨H3.cells.2.2.2.2.2.1,B3.2.2.2.1,clook_op H3.io rfl⟩) | (go_at_call 149;refine (pceN (n:=2) (creckon 5 _ (by omega)) rfl).mono ?_;rintro e w4 ⟨a4,b4,rfl,p4,g4⟩;have H4:=H3.keep g4;have B4:=B3.keep g4;have ⟨_,_,_,x0,x1,x2,x3⟩:=B4;have S4:w4.cell? ⟨M,5,none⟩=some (.map (some OB))∧w4.cell? ⟨w.heap.size,0,none⟩=some (.int .i64 76)∧(Instr.lookup 127 (.map (some OB)) (.int .i64 76) false).run Tryz.prog w4=.ok (.int .i64 5) w4:=⟨H4.cells.2.2.2.2.2.1,B4.2.2.2.1,clook_op H4.io rfl⟩) | (go_at_call 148;refine (pceN (n:=2) (cpopCell (16) _ (by omega)) rfl).mono ?_;rintro e w5 ⟨a5,b5,rfl,p5,g5⟩;have H5:=H4.keep g5;have B5:=B4.keep g5;have ⟨_,_,_,x0,x1,x2,x3⟩:=B5;have S5:w5.cell? ⟨M,5,none⟩=some (.map (some OB))∧w5.cell? ⟨w.heap.size,0,none⟩=some (.int .i64 76)∧(Instr.lookup 127 (.map (some OB)) (.int .i64 76) false).run Tryz.prog w5=.ok (.int .i64 5) w5:=⟨H5.cells.2.2.2.2.2.1,B5.2.2.2.1,clook_op H5.io rfl⟩) | (go_at_call 147;refine (HW.out _ _ _ (H5.allo _) (pcs_new4 ((p3.keep g4).keep g5) ((((p2.keep (grown_drew (grown_refl _ _))).keep g3).keep g4).keep g5) (p4.keep g5) p5)).mono ?_;rintro e wz ⟨rfl,cz,Hz,BB⟩;have Bz:=BB _ _ _ _ _ (B5.keep (World.grownBy_alloc _ _ none));have Sz:wz.cell? ⟨M,5,none⟩=some (.map (some OB))∧wz.cell? ⟨w.heap.size,0,none⟩=some (.int .i64 76)∧(Instr.lookup 127 (.map (some OB)) (.int .i64 76) false).run Tryz.prog wz=.ok (.int .i64 5) wz:=⟨Hz.cells.2.2.2.2.2.1,Bz.2.2.2.1,clook_op Hz.io rfl⟩)))
 all_goals go_wp2
 all_goals go_end0
 all_goals exact ⟨rfl,cz,Hz⟩
set_option maxHeartbeats 1000000 in
theorem cf_92 (w0 w:World) (M KB SB OB UB:Nat) (cv sv gv:Value) (l ss:List Int) (gs:List (Int × Int)) (jt jf k:Int) (h:CM w0 w M KB SB OB UB cv sv gv l ss gs) (hl:l.length≤80000) (uk:U32 k) :
  Calls Tryz.prog 115 #[.pointer (some ⟨M,0,none⟩),.agg #[.int .i64 92,.int .i64 jt,.int .i64 jf,.int .i64 k]] w fun e w'=>e=.returned (.tuple #[])∧∃ cv',CM w0 w' M KB SB OB UB cv' sv gv (l++piece (kd 92) k 0 0) ss gs:=by
 obtain ⟨c0,c1,c2,c3,c4,c5,c6⟩:=h.cells
 have lM:=h.m.lt
 obtain ⟨k0,k1⟩:=uk
 have H0:=h.allo (.cells #[.int .i64 92,.int .i64 jt,.int .i64 jf,.int .i64 k] 63)
 have B0:=box_new h (.int .i64 92) (.int .i64 jt) (.int .i64 jf) (.int .i64 k) 63
 have HW:Hid (∀ (B:Nat) (cv:Value) w',CM w0 w' M KB SB OB UB cv sv gv (l) ss gs→Pcs w' B [pC (16),pC (17),[4,6],oC (16)]→Calls Tryz.prog 147 #[.pointer (some ⟨M,0,none⟩),.slice (some ⟨B,0,none⟩) 4 4] w' fun e w''=>e=.returned (.tuple #[])∧∃ cv',CM w0 w'' M KB SB OB UB cv' sv gv (l++piece (kd 92) k 0 0) ss gs∧∀ B a b c d,BoxS w' M cv gv B a b c d→BoxS w'' M cv' gv B a b c d):=fun B cv w' h1 h2=>cwriteB w0 w' M KB SB OB UB cv sv gv (l) ss gs B 4 [pC (16),pC (17),[4,6],oC (16)] h1 (by simp) (by simp) (by simp [pW,pC,oC]) (by simp [pW,pC,oC]) (by first | omega | (simp [pW,pC,oC];omega)) h2
 clear h
 go_enter Tryz.func115,Tryz.ntmps115
 go_wp2_with (go_at_call 144;refine (pceN (n:=5) (cpushWord (k) _ k0) rfl).mono ?_;rintro e w1 ⟨a1,b1,rfl,p1,g1⟩;have H1:=H0.keep g1;have B1:=B0.keep g1;have ⟨_,_,_,x0,x1,x2,x3⟩:=B1;go_wp2_with (go_at_call 146;refine (pceN (n:=2) (cpushCell (17) _ (by omega)) rfl).mono ?_;rintro e w2 ⟨a2,b2,rfl,p2,g2⟩;have H2:=H1.keep g2;have B2:=B1.keep g2;have ⟨_,_,_,x0,x1,x2,x3⟩:=B2))
 have HS:w2.drew.cell? ⟨M,5,none⟩=some (.map (some OB))∧w2.drew.cell? ⟨w.heap.size,0,none⟩=some (.int .i64 92)∧(Instr.lookup 127 (.map (some OB)) (.int .i64 92) false).run Tryz.prog w2.drew=.ok (.int .i64 6) w2.drew:=⟨H2.drew.cells.2.2.2.2.2.1,(B2.keep (grown_drew (grown_refl _ _))).2.2.2.1,clook_op H2.drew.io rfl⟩
 go_region_held3 (fun w'=>w'.cell? ⟨M,5,none⟩=some (.map (some OB))∧w'.cell? ⟨w.heap.size,0,none⟩=some (.int .i64 92)∧(Instr.lookup 127 (.map (some OB)) (.int .i64 92) false).run Tryz.prog w'=.ok (.int .i64 6) w')
  (first | exact HS | assumption | exact ⟨(H5.allo _).cells.2.2.2.2.2.1,(B5.keep (World.grownBy_alloc _ _ none)).2.2.2.1,clook_op (H5.allo _).io rfl⟩)
  ((first | (go_at_call 146;refine (pceN (n:=2) (cpushCell (16) _ (by omega)) rfl).mono ?_;rintro e w3 ⟨a3,b3,rfl,p3,g3⟩;have H3:=H2.drew.keep g3;have B3:=(B2.keep (grown_drew (grown_refl _ _))).keep g3;have ⟨_,_,_,x0,x1,x2,x3⟩:=B3;have S3:w3.cell? ⟨M,5,none⟩=some (.map (some OB))∧w3.cell? ⟨w.heap.size,0,none⟩=some (.int .i64 92)∧(Instr.lookup 127 (.map (some OB)) (.int .i64 92) false).run Tryz.prog w3=.ok (.int .i64 6) w3:=⟨H3.cells.2.2.2.2.2.1,B3.2.2.2.1,clook_op H3.io rfl⟩) | (go_at_call 149;refine (pceN (n:=2) (creckon 6 _ (by omega)) rfl).mono ?_;rintro e w4 ⟨a4,b4,rfl,p4,g4⟩;have H4:=H3.keep g4;have B4:=B3.keep g4;have ⟨_,_,_,x0,x1,x2,x3⟩:=B4;have S4:w4.cell? ⟨M,5,none⟩=some (.map (some OB))∧w4.cell? ⟨w.heap.size,0,none⟩=some (.int .i64 92)∧(Instr.lookup 127 (.map (some OB)) (.int .i64 92) false).run Tryz.prog w4=.ok (.int .i64 6) w4:=⟨H4.cells.2.2.2.2.2.1,B4.2.2.2.1,clook_op H4.io rfl⟩) | (go_at_call 148;refine (pceN (n:=2) (cpopCell (16) _ (by omega)) rfl).mono ?_;rintro e w5 ⟨a5,b5,rfl,p5,g5⟩;have H5:=H4.keep g5;have B5:=B4.keep g5;have ⟨_,_,_,x0,x1,x2,x3⟩:=B5;have S5:w5.cell? ⟨M,5,none⟩=some (.map (some OB))∧w5.cell? ⟨w.heap.size,0,none⟩=some (.int .i64 92)∧(Instr.lookup 127 (.map (some OB)) (.int .i64 92) false).run Tryz.prog w5=.ok (.int .i64 6) w5:=⟨H5.cells.2.2.2.2.2.1,B5.2.2.2.1,clook_op H5.io rfl⟩) | (go_at_call 147;refine (HW.out _ _ _ (H5.allo _) (pcs_new4 ((p3.keep g4).keep g5) ((((p2.keep (grown_drew (grown_refl _ _))).keep g3).keep g4).keep g5) (p4.keep g5) p5)).mono ?_;rintro e wz ⟨rfl,cz,Hz,BB⟩;have Bz:=BB _ _ _ _ _ (B5.keep (World.grownBy_alloc _ _ none));have Sz:wz.cell? ⟨M,5,none⟩=some (.map (some OB))∧wz.cell? ⟨w.heap.size,0,none⟩=some (.int .i64 92)∧(Instr.lookup 127 (.map (some OB)) (.int .i64 92) false).run Tryz.prog wz=.ok (.int .i64 6) wz:=⟨Hz.cells.2.2.2.2.2.1,Bz.2.2.2.1,clook_op Hz.io rfl⟩)))
 all_goals go_wp2
 all_goals go_end0
 all_goals exact ⟨rfl,cz,Hz⟩
set_option maxHeartbeats 1000000 in
theorem cf_172 (w0 w:World) (M KB SB OB UB:Nat) (cv sv gv:Value) (l ss:List Int) (gs:List (Int × Int)) (jt jf k:Int) (h:CM w0 w M KB SB OB UB cv sv gv l ss gs) (hl:l.length≤80000) (uk:U32 k) :
  Calls Tryz.prog 115 #[.pointer (some ⟨M,0,none⟩),.agg #[.int .i64 172,.int .i64 jt,.int .i64 jf,.int .i64 k]] w fun e w'=>e=.returned (.tuple #[])∧∃ cv',CM w0 w' M KB SB OB UB cv' sv gv (l++piece (kd 172) k 0 0) ss gs:=by
 obtain ⟨c0,c1,c2,c3,c4,c5,c6⟩:=h.cells
 have lM:=h.m.lt
 obtain ⟨k0,k1⟩:=uk
 have H0:=h.allo (.cells #[.int .i64 172,.int .i64 jt,.int .i64 jf,.int .i64 k] 63)
 have B0:=box_new h (.int .i64 172) (.int .i64 jt) (.int .i64 jf) (.int .i64 k) 63
 have HW:Hid (∀ (B:Nat) (cv:Value) w',CM w0 w' M KB SB OB UB cv sv gv (l) ss gs→Pcs w' B [pC (16),pC (17),[4,7],oC (16)]→Calls Tryz.prog 147 #[.pointer (some ⟨M,0,none⟩),.slice (some ⟨B,0,none⟩) 4 4] w' fun e w''=>e=.returned (.tuple #[])∧∃ cv',CM w0 w'' M KB SB OB UB cv' sv gv (l++piece (kd 172) k 0 0) ss gs∧∀ B a b c d,BoxS w' M cv gv B a b c d→BoxS w'' M cv' gv B a b c d):=fun B cv w' h1 h2=>cwriteB w0 w' M KB SB OB UB cv sv gv (l) ss gs B 4 [pC (16),pC (17),[4,7],oC (16)] h1 (by simp) (by simp) (by simp [pW,pC,oC]) (by simp [pW,pC,oC]) (by first | omega | (simp [pW,pC,oC];omega)) h2
 clear h
 go_enter Tryz.func115,Tryz.ntmps115
 go_wp2_with (go_at_call 144;refine (pceN (n:=5) (cpushWord (k) _ k0) rfl).mono ?_;rintro e w1 ⟨a1,b1,rfl,p1,g1⟩;have H1:=H0.keep g1;have B1:=B0.keep g1;have ⟨_,_,_,x0,x1,x2,x3⟩:=B1;go_wp2_with (go_at_call 146;refine (pceN (n:=2) (cpushCell (17) _ (by omega)) rfl).mono ?_;rintro e w2 ⟨a2,b2,rfl,p2,g2⟩;have H2:=H1.keep g2;have B2:=B1.keep g2;have ⟨_,_,_,x0,x1,x2,x3⟩:=B2))
 have HS:w2.drew.cell? ⟨M,5,none⟩=some (.map (some OB))∧w2.drew.cell? ⟨w.heap.size,0,none⟩=some (.int .i64 172)∧(Instr.lookup 127 (.map (some OB)) (.int .i64 172) false).run Tryz.prog w2.drew=.ok (.int .i64 7) w2.drew:=⟨H2.drew.cells.2.2.2.2.2.1,(B2.keep (grown_drew (grown_refl _ _))).2.2.2.1,clook_op H2.drew.io rfl⟩
 go_region_held3 (fun w'=>w'.cell? ⟨M,5,none⟩=some (.map (some OB))∧w'.cell? ⟨w.heap.size,0,none⟩=some (.int .i64 172)∧(Instr.lookup 127 (.map (some OB)) (.int .i64 172) false).run Tryz.prog w'=.ok (.int .i64 7) w')
  (first | exact HS | assumption | exact ⟨(H5.allo _).cells.2.2.2.2.2.1,(B5.keep (World.grownBy_alloc _ _ none)).2.2.2.1,clook_op (H5.allo _).io rfl⟩)
  ((first | (go_at_call 146;refine (pceN (n:=2) (cpushCell (16) _ (by omega)) rfl).mono ?_;rintro e w3 ⟨a3,b3,rfl,p3,g3⟩;have H3:=H2.drew.keep g3;have B3:=(B2.keep (grown_drew (grown_refl _ _))).keep g3;have ⟨_,_,_,x0,x1,x2,x3⟩:=B3;have S3:w3.cell? ⟨M,5,none⟩=some (.map (some OB))∧w3.cell? ⟨w.heap.size,0,none⟩=some (.int .i64 172)∧(Instr.lookup 127 (.map (some OB)) (.int .i64 172) false).run Tryz.prog w3=.ok (.int .i64 7) w3:=⟨H3.cells.2.2.2.2.2.1,B3.2.2.2.1,clook_op H3.io rfl⟩) | (go_at_call 149;refine (pceN (n:=2) (creckon 7 _ (by omega)) rfl).mono ?_;rintro e w4 ⟨a4,b4,rfl,p4,g4⟩;have H4:=H3.keep g4;have B4:=B3.keep g4;have ⟨_,_,_,x0,x1,x2,x3⟩:=B4;have S4:w4.cell? ⟨M,5,none⟩=some (.map (some OB))∧w4.cell? ⟨w.heap.size,0,none⟩=some (.int .i64 172)∧(Instr.lookup 127 (.map (some OB)) (.int .i64 172) false).run Tryz.prog w4=.ok (.int .i64 7) w4:=⟨H4.cells.2.2.2.2.2.1,B4.2.2.2.1,clook_op H4.io rfl⟩) | (go_at_call 148;refine (pceN (n:=2) (cpopCell (16) _ (by omega)) rfl).mono ?_;rintro e w5 ⟨a5,b5,rfl,p5,g5⟩;have H5:=H4.keep g5;have B5:=B4.keep g5;have ⟨_,_,_,x0,x1,x2,x3⟩:=B5;have S5:w5.cell? ⟨M,5,none⟩=some (.map (some OB))∧w5.cell? ⟨w.heap.size,0,none⟩=some (.int .i64 172)∧(Instr.lookup 127 (.map (some OB)) (.int .i64 172) false).run Tryz.prog w5=.ok (.int .i64 7) w5:=⟨H5.cells.2.2.2.2.2.1,B5.2.2.2.1,clook_op H5.io rfl⟩) | (go_at_call 147;refine (HW.out _ _ _ (H5.allo _) (pcs_new4 ((p3.keep g4).keep g5) ((((p2.keep (grown_drew (grown_refl _ _))).keep g3).keep g4).keep g5) (p4.keep g5) p5)).mono ?_;rintro e wz ⟨rfl,cz,Hz,BB⟩;have Bz:=BB _ _ _ _ _ (B5.keep (World.grownBy_alloc _ _ none));have Sz:wz.cell? ⟨M,5,none⟩=some (.map (some OB))∧wz.cell? ⟨w.heap.size,0,none⟩=some (.int .i64 172)∧(Instr.lookup 127 (.map (some OB)) (.int .i64 172) false).run Tryz.prog wz=.ok (.int .i64 7) wz:=⟨Hz.cells.2.2.2.2.2.1,Bz.2.2.2.1,clook_op Hz.io rfl⟩)))
 all_goals go_wp2
 all_goals go_end0
 all_goals exact ⟨rfl,cz,Hz⟩
set_option maxHeartbeats 1000000 in
theorem cf_108 (w0 w:World) (M KB SB OB UB:Nat) (cv sv gv:Value) (l ss:List Int) (gs:List (Int × Int)) (jt jf k:Int) (h:CM w0 w M KB SB OB UB cv sv gv l ss gs) (hl:l.length≤80000) (uk:U32 k) :
  Calls Tryz.prog 115 #[.pointer (some ⟨M,0,none⟩),.agg #[.int .i64 108,.int .i64 jt,.int .i64 jf,.int .i64 k]] w fun e w'=>e=.returned (.tuple #[])∧∃ cv',CM w0 w' M KB SB OB UB cv' sv gv (l++piece (kd 108) k 0 0) ss gs:=by
 obtain ⟨c0,c1,c2,c3,c4,c5,c6⟩:=h.cells
 have lM:=h.m.lt
 obtain ⟨k0,k1⟩:=uk
 have H0:=h.allo (.cells #[.int .i64 108,.int .i64 jt,.int .i64 jf,.int .i64 k] 63)
 have B0:=box_new h (.int .i64 108) (.int .i64 jt) (.int .i64 jf) (.int .i64 k) 63
 have HW:Hid (∀ (B:Nat) (cv:Value) w',CM w0 w' M KB SB OB UB cv sv gv (l) ss gs→Pcs w' B [pC (16),pC (17),[4,8],oC (16)]→Calls Tryz.prog 147 #[.pointer (some ⟨M,0,none⟩),.slice (some ⟨B,0,none⟩) 4 4] w' fun e w''=>e=.returned (.tuple #[])∧∃ cv',CM w0 w'' M KB SB OB UB cv' sv gv (l++piece (kd 108) k 0 0) ss gs∧∀ B a b c d,BoxS w' M cv gv B a b c d→BoxS w'' M cv' gv B a b c d):=fun B cv w' h1 h2=>cwriteB w0 w' M KB SB OB UB cv sv gv (l) ss gs B 4 [pC (16),pC (17),[4,8],oC (16)] h1 (by simp) (by simp) (by simp [pW,pC,oC]) (by simp [pW,pC,oC]) (by first | omega | (simp [pW,pC,oC];omega)) h2
 clear h
 go_enter Tryz.func115,Tryz.ntmps115
 go_wp2_with (go_at_call 144;refine (pceN (n:=5) (cpushWord (k) _ k0) rfl).mono ?_;rintro e w1 ⟨a1,b1,rfl,p1,g1⟩;have H1:=H0.keep g1;have B1:=B0.keep g1;have ⟨_,_,_,x0,x1,x2,x3⟩:=B1;go_wp2_with (go_at_call 146;refine (pceN (n:=2) (cpushCell (17) _ (by omega)) rfl).mono ?_;rintro e w2 ⟨a2,b2,rfl,p2,g2⟩;have H2:=H1.keep g2;have B2:=B1.keep g2;have ⟨_,_,_,x0,x1,x2,x3⟩:=B2))
 have HS:w2.drew.cell? ⟨M,5,none⟩=some (.map (some OB))∧w2.drew.cell? ⟨w.heap.size,0,none⟩=some (.int .i64 108)∧(Instr.lookup 127 (.map (some OB)) (.int .i64 108) false).run Tryz.prog w2.drew=.ok (.int .i64 8) w2.drew:=⟨H2.drew.cells.2.2.2.2.2.1,(B2.keep (grown_drew (grown_refl _ _))).2.2.2.1,clook_op H2.drew.io rfl⟩
 go_region_held3 (fun w'=>w'.cell? ⟨M,5,none⟩=some (.map (some OB))∧w'.cell? ⟨w.heap.size,0,none⟩=some (.int .i64 108)∧(Instr.lookup 127 (.map (some OB)) (.int .i64 108) false).run Tryz.prog w'=.ok (.int .i64 8) w')
  (first | exact HS | assumption | exact ⟨(H5.allo _).cells.2.2.2.2.2.1,(B5.keep (World.grownBy_alloc _ _ none)).2.2.2.1,clook_op (H5.allo _).io rfl⟩)
  ((first | (go_at_call 146;refine (pceN (n:=2) (cpushCell (16) _ (by omega)) rfl).mono ?_;rintro e w3 ⟨a3,b3,rfl,p3,g3⟩;have H3:=H2.drew.keep g3;have B3:=(B2.keep (grown_drew (grown_refl _ _))).keep g3;have ⟨_,_,_,x0,x1,x2,x3⟩:=B3;have S3:w3.cell? ⟨M,5,none⟩=some (.map (some OB))∧w3.cell? ⟨w.heap.size,0,none⟩=some (.int .i64 108)∧(Instr.lookup 127 (.map (some OB)) (.int .i64 108) false).run Tryz.prog w3=.ok (.int .i64 8) w3:=⟨H3.cells.2.2.2.2.2.1,B3.2.2.2.1,clook_op H3.io rfl⟩) | (go_at_call 149;refine (pceN (n:=2) (creckon 8 _ (by omega)) rfl).mono ?_;rintro e w4 ⟨a4,b4,rfl,p4,g4⟩;have H4:=H3.keep g4;have B4:=B3.keep g4;have ⟨_,_,_,x0,x1,x2,x3⟩:=B4;have S4:w4.cell? ⟨M,5,none⟩=some (.map (some OB))∧w4.cell? ⟨w.heap.size,0,none⟩=some (.int .i64 108)∧(Instr.lookup 127 (.map (some OB)) (.int .i64 108) false).run Tryz.prog w4=.ok (.int .i64 8) w4:=⟨H4.cells.2.2.2.2.2.1,B4.2.2.2.1,clook_op H4.io rfl⟩) | (go_at_call 148;refine (pceN (n:=2) (cpopCell (16) _ (by omega)) rfl).mono ?_;rintro e w5 ⟨a5,b5,rfl,p5,g5⟩;have H5:=H4.keep g5;have B5:=B4.keep g5;have ⟨_,_,_,x0,x1,x2,x3⟩:=B5;have S5:w5.cell? ⟨M,5,none⟩=some (.map (some OB))∧w5.cell? ⟨w.heap.size,0,none⟩=some (.int .i64 108)∧(Instr.lookup 127 (.map (some OB)) (.int .i64 108) false).run Tryz.prog w5=.ok (.int .i64 8) w5:=⟨H5.cells.2.2.2.2.2.1,B5.2.2.2.1,clook_op H5.io rfl⟩) | (go_at_call 147;refine (HW.out _ _ _ (H5.allo _) (pcs_new4 ((p3.keep g4).keep g5) ((((p2.keep (grown_drew (grown_refl _ _))).keep g3).keep g4).keep g5) (p4.keep g5) p5)).mono ?_;rintro e wz ⟨rfl,cz,Hz,BB⟩;have Bz:=BB _ _ _ _ _ (B5.keep (World.grownBy_alloc _ _ none));have Sz:wz.cell? ⟨M,5,none⟩=some (.map (some OB))∧wz.cell? ⟨w.heap.size,0,none⟩=some (.int .i64 108)∧(Instr.lookup 127 (.map (some OB)) (.int .i64 108) false).run Tryz.prog wz=.ok (.int .i64 8) wz:=⟨Hz.cells.2.2.2.2.2.1,Bz.2.2.2.1,clook_op Hz.io rfl⟩)))
 all_goals go_wp2
 all_goals go_end0
 all_goals exact ⟨rfl,cz,Hz⟩
set_option maxHeartbeats 1000000 in
theorem cf_124 (w0 w:World) (M KB SB OB UB:Nat) (cv sv gv:Value) (l ss:List Int) (gs:List (Int × Int)) (jt jf k:Int) (h:CM w0 w M KB SB OB UB cv sv gv l ss gs) (hl:l.length≤80000) (uk:U32 k) :
  Calls Tryz.prog 115 #[.pointer (some ⟨M,0,none⟩),.agg #[.int .i64 124,.int .i64 jt,.int .i64 jf,.int .i64 k]] w fun e w'=>e=.returned (.tuple #[])∧∃ cv',CM w0 w' M KB SB OB UB cv' sv gv (l++piece (kd 124) k 0 0) ss gs:=by
 obtain ⟨c0,c1,c2,c3,c4,c5,c6⟩:=h.cells
 have lM:=h.m.lt
 obtain ⟨k0,k1⟩:=uk
 have H0:=h.allo (.cells #[.int .i64 124,.int .i64 jt,.int .i64 jf,.int .i64 k] 63)
 have B0:=box_new h (.int .i64 124) (.int .i64 jt) (.int .i64 jf) (.int .i64 k) 63
 have HW:Hid (∀ (B:Nat) (cv:Value) w',CM w0 w' M KB SB OB UB cv sv gv (l) ss gs→Pcs w' B [pC (16),pC (17),[4,9],oC (16)]→Calls Tryz.prog 147 #[.pointer (some ⟨M,0,none⟩),.slice (some ⟨B,0,none⟩) 4 4] w' fun e w''=>e=.returned (.tuple #[])∧∃ cv',CM w0 w'' M KB SB OB UB cv' sv gv (l++piece (kd 124) k 0 0) ss gs∧∀ B a b c d,BoxS w' M cv gv B a b c d→BoxS w'' M cv' gv B a b c d):=fun B cv w' h1 h2=>cwriteB w0 w' M KB SB OB UB cv sv gv (l) ss gs B 4 [pC (16),pC (17),[4,9],oC (16)] h1 (by simp) (by simp) (by simp [pW,pC,oC]) (by simp [pW,pC,oC]) (by first | omega | (simp [pW,pC,oC];omega)) h2
 clear h
 go_enter Tryz.func115,Tryz.ntmps115
 go_wp2_with (go_at_call 144;refine (pceN (n:=5) (cpushWord (k) _ k0) rfl).mono ?_;rintro e w1 ⟨a1,b1,rfl,p1,g1⟩;have H1:=H0.keep g1;have B1:=B0.keep g1;have ⟨_,_,_,x0,x1,x2,x3⟩:=B1;go_wp2_with (go_at_call 146;refine (pceN (n:=2) (cpushCell (17) _ (by omega)) rfl).mono ?_;rintro e w2 ⟨a2,b2,rfl,p2,g2⟩;have H2:=H1.keep g2;have B2:=B1.keep g2;have ⟨_,_,_,x0,x1,x2,x3⟩:=B2))
 have HS:w2.drew.cell? ⟨M,5,none⟩=some (.map (some OB))∧w2.drew.cell? ⟨w.heap.size,0,none⟩=some (.int .i64 124)∧(Instr.lookup 127 (.map (some OB)) (.int .i64 124) false).run Tryz.prog w2.drew=.ok (.int .i64 9) w2.drew:=⟨H2.drew.cells.2.2.2.2.2.1,(B2.keep (grown_drew (grown_refl _ _))).2.2.2.1,clook_op H2.drew.io rfl⟩
 go_region_held3 (fun w'=>w'.cell? ⟨M,5,none⟩=some (.map (some OB))∧w'.cell? ⟨w.heap.size,0,none⟩=some (.int .i64 124)∧(Instr.lookup 127 (.map (some OB)) (.int .i64 124) false).run Tryz.prog w'=.ok (.int .i64 9) w')
  (first | exact HS | assumption | exact ⟨(H5.allo _).cells.2.2.2.2.2.1,(B5.keep (World.grownBy_alloc _ _ none)).2.2.2.1,clook_op (H5.allo _).io rfl⟩)
  ((first | (go_at_call 146;refine (pceN (n:=2) (cpushCell (16) _ (by omega)) rfl).mono ?_;rintro e w3 ⟨a3,b3,rfl,p3,g3⟩;have H3:=H2.drew.keep g3;have B3:=(B2.keep (grown_drew (grown_refl _ _))).keep g3;have ⟨_,_,_,x0,x1,x2,x3⟩:=B3;have S3:w3.cell? ⟨M,5,none⟩=some (.map (some OB))∧w3.cell? ⟨w.heap.size,0,none⟩=some (.int .i64 124)∧(Instr.lookup 127 (.map (some OB)) (.int .i64 124) false).run Tryz.prog w3=.ok (.int .i64 9) w3:=⟨H3.cells.2.2.2.2.2.1,B3.2.2.2.1,clook_op H3.io rfl⟩) | (go_at_call 149;refine (pceN (n:=2) (creckon 9 _ (by omega)) rfl).mono ?_;rintro e w4 ⟨a4,b4,rfl,p4,g4⟩;have H4:=H3.keep g4;have B4:=B3.keep g4;have ⟨_,_,_,x0,x1,x2,x3⟩:=B4;have S4:w4.cell? ⟨M,5,none⟩=some (.map (some OB))∧w4.cell? ⟨w.heap.size,0,none⟩=some (.int .i64 124)∧(Instr.lookup 127 (.map (some OB)) (.int .i64 124) false).run Tryz.prog w4=.ok (.int .i64 9) w4:=⟨H4.cells.2.2.2.2.2.1,B4.2.2.2.1,clook_op H4.io rfl⟩) | (go_at_call 148;refine (pceN (n:=2) (cpopCell (16) _ (by omega)) rfl).mono ?_;rintro e w5 ⟨a5,b5,rfl,p5,g5⟩;have H5:=H4.keep g5;have B5:=B4.keep g5;have ⟨_,_,_,x0,x1,x2,x3⟩:=B5;have S5:w5.cell? ⟨M,5,none⟩=some (.map (some OB))∧w5.cell? ⟨w.heap.size,0,none⟩=some (.int .i64 124)∧(Instr.lookup 127 (.map (some OB)) (.int .i64 124) false).run Tryz.prog w5=.ok (.int .i64 9) w5:=⟨H5.cells.2.2.2.2.2.1,B5.2.2.2.1,clook_op H5.io rfl⟩) | (go_at_call 147;refine (HW.out _ _ _ (H5.allo _) (pcs_new4 ((p3.keep g4).keep g5) ((((p2.keep (grown_drew (grown_refl _ _))).keep g3).keep g4).keep g5) (p4.keep g5) p5)).mono ?_;rintro e wz ⟨rfl,cz,Hz,BB⟩;have Bz:=BB _ _ _ _ _ (B5.keep (World.grownBy_alloc _ _ none));have Sz:wz.cell? ⟨M,5,none⟩=some (.map (some OB))∧wz.cell? ⟨w.heap.size,0,none⟩=some (.int .i64 124)∧(Instr.lookup 127 (.map (some OB)) (.int .i64 124) false).run Tryz.prog wz=.ok (.int .i64 9) wz:=⟨Hz.cells.2.2.2.2.2.1,Bz.2.2.2.1,clook_op Hz.io rfl⟩)))
 all_goals go_wp2
 all_goals go_end0
 all_goals exact ⟨rfl,cz,Hz⟩
end Go.Proofs.YthbcfepbkkbjiaaGreatDoor
namespace Go.Proofs.YthbcfepbkkbjiaaGreatDoor
open Go.RowKit
set_option maxHeartbeats 1000000 in
theorem cj_5 (w0 w:World) (M KB SB OB UB:Nat) (cv sv gv:Value) (l ss:List Int) (gs:List (Int × Int)) (jt jf k:Int) (h:CM w0 w M KB SB OB UB cv sv gv l ss gs) (hl:l.length≤80000) (uk:U32 k) (hs:ss.length≤1000) (hs1:1≤ss.length) (hgs:gs.length≤9000) (hjt:0≤jt∧jt≤4294967295) (hjf:0≤jf∧jf≤4294967295) :
  Calls Tryz.prog 116 #[.pointer (some ⟨M,0,none⟩),.agg #[.int .i64 5,.int .i64 jt,.int .i64 jf,.int .i64 k]] w fun e w'=>e=.returned (.tuple #[])∧∃ cv' gv',CM w0 w' M KB SB OB UB cv' sv gv' (l++piece (kd 5) k 0 0) ss (gs ++ [((l.length:Int)+3,(ss.length:Int)+k)]):=by
 obtain ⟨c0,c1,c2,c3,c4,c5,c6⟩:=h.cells
 have lM:=h.m.lt
 obtain ⟨k0,k1⟩:=uk
 have H0:=h.allo (.cells #[.int .i64 5,.int .i64 jt,.int .i64 jf,.int .i64 k] 63)
 have B0:=box_new h (.int .i64 5) (.int .i64 jt) (.int .i64 jf) (.int .i64 k) 63
 have HS:(w.alloc (.cells #[.int .i64 5,.int .i64 jt,.int .i64 jf,.int .i64 k] 63)).drew.cell? ⟨w.heap.size,3,none⟩=some (.int .i64 k):=(B0.keep (grown_drew (grown_refl _ _))).2.2.2.2.2.2
 have HV:Hid (∀ (B:Nat) (cv gv:Value) w',CM w0 w' M KB SB OB UB cv sv gv (l) ss (gs)→Pcs w' B [[7]]→Calls Tryz.prog 147 #[.pointer (some ⟨M,0,none⟩),.slice (some ⟨B,0,none⟩) 1 1] w' fun e w''=>e=.returned (.tuple #[])∧∃ cv',CM w0 w'' M KB SB OB UB cv' sv gv (l ++ [7]) ss (gs)∧∀ B a b c d,BoxS w' M cv gv B a b c d→BoxS w'' M cv' gv B a b c d):=fun B cv gv w' h1 h2=>cwriteB w0 w' M KB SB OB UB cv sv gv (l) ss (gs) B 1 [[7]] h1 (by simp) (by simp) (by simp [pW,pC,oC]) (by simp [pW,pC,oC]) (by first | omega | (simp [pW,pC,b2];omega)) h2
 have HK:Hid (∀ (cv gv:Value) w',CM w0 w' M KB SB OB UB cv sv gv (l ++ [7]) ss (gs)→Calls Tryz.prog 152 #[.pointer (some ⟨M,0,none⟩),.int .i64 k] w' fun e w''=>e=.returned (.tuple #[])∧∃ cv' gv',CM w0 w'' M KB SB OB UB cv' sv gv' ((l ++ [7]) ++ [0,0]) ss (gs ++ [(((l ++ [7]).length:Int)+2,(ss.length:Int)+k)])∧∀ B a b c d,BoxS w' M cv gv B a b c d→BoxS w'' M cv' gv' B a b c d):=fun cv gv w' h1=>cgap w0 w' M KB SB OB UB cv sv gv (l ++ [7]) ss (gs) k h1 (by first | omega | (simp [pW,pC,b2];omega)) hs hs1 (by first | omega | (simp;omega)) (by omega)
 clear h
 go_enter Tryz.func116,Tryz.ntmps116
 go_wp2
 go_region_held3 (fun w'=>w'.cell? ⟨w.heap.size,3,none⟩=some (.int .i64 k))
  (first | exact HS | assumption)
  ((go_at_call 144;refine (pceN (n:=5) (cpushWord (k) _ k0) rfl).mono ?_;rintro e w1 ⟨a1,b1,rfl,p1,g1⟩;have H1:=H0.drew.keep g1;have B1:=(B0.keep (grown_drew (grown_refl _ _))).keep g1;have ⟨_,_,_,x0,x1,x2,x3⟩:=B1;have S1:w1.cell? ⟨w.heap.size,3,none⟩=some (.int .i64 k):=B1.2.2.2.2.2.2))
 all_goals
  clear S1 HS
  go_wp2_with (go_at_call 153;refine (pceN (n:=1) (cleap _) rfl).mono ?_;rintro e w2 ⟨a2,b2,rfl,p2,g2⟩;have H2:=H1.keep g2;have B2:=B1.keep g2;have ⟨_,_,_,x0,x1,x2,x3⟩:=B2;go_wp2_with (go_at_call 147;refine (HV.out _ _ _ _ (H2.allo _) (pcs_new1 p2)).mono ?_;rintro e w8 ⟨rfl,cv8,H8,BB⟩;go_wp2_with (go_at_call 152;refine (HK.out _ _ _ H8).mono ?_;rintro e w9 ⟨rfl,cv9,gv9,H9,_⟩)))
  go_end0
  refine ⟨rfl,cv9,gv9,?_⟩
  have e1:(l ++ [7]) ++ [0,0]=l++piece (kd 5) k 0 0:=by simp only [List.append_assoc];rfl
  have e2:gs ++ [(((l ++ [7]).length:Int)+2,(ss.length:Int)+k)]=gs ++ [((l.length:Int)+3,(ss.length:Int)+k)]:=by
   congr 1
   simp
   omega
  rw [e1,e2] at H9
  exact H9
set_option maxHeartbeats 1000000 in
theorem cj_21 (w0 w:World) (M KB SB OB UB:Nat) (cv sv gv:Value) (l ss:List Int) (gs:List (Int × Int)) (jt jf k:Int) (h:CM w0 w M KB SB OB UB cv sv gv l ss gs) (hl:l.length≤80000) (uk:U32 k) (hs:ss.length≤1000) (hs1:1≤ss.length) (hgs:gs.length≤9000) (hjt:0≤jt∧jt≤4294967295) (hjf:0≤jf∧jf≤4294967295) :
  Calls Tryz.prog 116 #[.pointer (some ⟨M,0,none⟩),.agg #[.int .i64 21,.int .i64 jt,.int .i64 jf,.int .i64 k]] w fun e w'=>e=.returned (.tuple #[])∧∃ cv' gv',CM w0 w' M KB SB OB UB cv' sv gv' (l++piece (kd 21) k 0 0) ss (gs ++ [((l.length:Int)+11,(ss.length:Int)+jt),((l.length:Int)+14,(ss.length:Int)+jf)]):=by
 obtain ⟨c0,c1,c2,c3,c4,c5,c6⟩:=h.cells
 have lM:=h.m.lt
 obtain ⟨k0,k1⟩:=uk
 have H0:=h.allo (.cells #[.int .i64 21,.int .i64 jt,.int .i64 jf,.int .i64 k] 63)
 have B0:=box_new h (.int .i64 21) (.int .i64 jt) (.int .i64 jf) (.int .i64 k) 63
 have HS:(w.alloc (.cells #[.int .i64 21,.int .i64 jt,.int .i64 jf,.int .i64 k] 63)).drew.cell? ⟨w.heap.size,3,none⟩=some (.int .i64 k):=(B0.keep (grown_drew (grown_refl _ _))).2.2.2.2.2.2
 have HW:Hid (∀ (B:Nat) (cv gv:Value) w',CM w0 w' M KB SB OB UB cv sv gv (l) ss (gs)→Pcs w' B [pC 16,pW k,[8,0]]→Calls Tryz.prog 147 #[.pointer (some ⟨M,0,none⟩),.slice (some ⟨B,0,none⟩) 3 3] w' fun e w''=>e=.returned (.tuple #[])∧∃ cv',CM w0 w'' M KB SB OB UB cv' sv gv (l++(pC 16++(pW k ++ [8,0]))) ss (gs)∧∀ B a b c d,BoxS w' M cv gv B a b c d→BoxS w'' M cv' gv B a b c d):=fun B cv gv w' h1 h2=>cwriteB w0 w' M KB SB OB UB cv sv gv (l) ss (gs) B 3 [pC 16,pW k,[8,0]] h1 (by simp) (by simp) (by simp [pW,pC,oC]) (by simp [pW,pC,oC]) (by first | omega | (simp [pW,pC,b2];omega)) h2
 have HG:Hid (∀ (cv gv:Value) w',CM w0 w' M KB SB OB UB cv sv gv (l++(pC 16++(pW k ++ [8,0]))) ss (gs)→Calls Tryz.prog 152 #[.pointer (some ⟨M,0,none⟩),.int .i64 jt] w' fun e w''=>e=.returned (.tuple #[])∧∃ cv' gv',CM w0 w'' M KB SB OB UB cv' sv gv' ((l++(pC 16++(pW k ++ [8,0]))) ++ [0,0]) ss (gs ++ [(((l++(pC 16++(pW k ++ [8,0]))).length:Int)+2,(ss.length:Int)+jt)])∧∀ B a b c d,BoxS w' M cv gv B a b c d→BoxS w'' M cv' gv' B a b c d):=fun cv gv w' h1=>cgap w0 w' M KB SB OB UB cv sv gv (l++(pC 16++(pW k ++ [8,0]))) ss (gs) jt h1 (by first | omega | (simp [pW,pC,b2];omega)) hs hs1 (by first | omega | (simp;omega)) (by omega)
 have HV:Hid (∀ (B:Nat) (cv gv:Value) w',CM w0 w' M KB SB OB UB cv sv gv ((l++(pC 16++(pW k ++ [8,0]))) ++ [0,0]) ss (gs ++ [(((l++(pC 16++(pW k ++ [8,0]))).length:Int)+2,(ss.length:Int)+jt)])→Pcs w' B [[7]]→Calls Tryz.prog 147 #[.pointer (some ⟨M,0,none⟩),.slice (some ⟨B,0,none⟩) 1 1] w' fun e w''=>e=.returned (.tuple #[])∧∃ cv',CM w0 w'' M KB SB OB UB cv' sv gv (((l++(pC 16++(pW k ++ [8,0]))) ++ [0,0]) ++ [7]) ss (gs ++ [(((l++(pC 16++(pW k ++ [8,0]))).length:Int)+2,(ss.length:Int)+jt)])∧∀ B a b c d,BoxS w' M cv gv B a b c d→BoxS w'' M cv' gv B a b c d):=fun B cv gv w' h1 h2=>cwriteB w0 w' M KB SB OB UB cv sv gv ((l++(pC 16++(pW k ++ [8,0]))) ++ [0,0]) ss (gs ++ [(((l++(pC 16++(pW k ++ [8,0]))).length:Int)+2,(ss.length:Int)+jt)]) B 1 [[7]] h1 (by simp) (by simp) (by simp [pW,pC,oC]) (by simp [pW,pC,oC]) (by first | omega | (simp [pW,pC,b2];omega)) h2
 have HK:Hid (∀ (cv gv:Value) w',CM w0 w' M KB SB OB UB cv sv gv (((l++(pC 16++(pW k ++ [8,0]))) ++ [0,0]) ++ [7]) ss (gs ++ [(((l++(pC 16++(pW k ++ [8,0]))).length:Int)+2,(ss.length:Int)+jt)])→Calls Tryz.prog 152 #[.pointer (some ⟨M,0,none⟩),.int .i64 jf] w' fun e w''=>e=.returned (.tuple #[])∧∃ cv' gv',CM w0 w'' M KB SB OB UB cv' sv gv' ((((l++(pC 16++(pW k ++ [8,0]))) ++ [0,0]) ++ [7]) ++ [0,0]) ss ((gs ++ [(((l++(pC 16++(pW k ++ [8,0]))).length:Int)+2,(ss.length:Int)+jt)]) ++ [(((((l++(pC 16++(pW k ++ [8,0]))) ++ [0,0]) ++ [7]).length:Int)+2,(ss.length:Int)+jf)])∧∀ B a b c d,BoxS w' M cv gv B a b c d→BoxS w'' M cv' gv' B a b c d):=fun cv gv w' h1=>cgap w0 w' M KB SB OB UB cv sv gv (((l++(pC 16++(pW k ++ [8,0]))) ++ [0,0]) ++ [7]) ss (gs ++ [(((l++(pC 16++(pW k ++ [8,0]))).length:Int)+2,(ss.length:Int)+jt)]) jf h1 (by first | omega | (simp [pW,pC,b2];omega)) hs hs1 (by first | omega | (simp;omega)) (by omega)
 clear h
 go_enter Tryz.func116,Tryz.ntmps116
 go_wp2
 go_region_held3 (fun w'=>w'.cell? ⟨w.heap.size,3,none⟩=some (.int .i64 k))
  (first | exact HS | assumption)
  ((go_at_call 144;refine (pceN (n:=5) (cpushWord (k) _ k0) rfl).mono ?_;rintro e w1 ⟨a1,b1,rfl,p1,g1⟩;have H1:=H0.drew.keep g1;have B1:=(B0.keep (grown_drew (grown_refl _ _))).keep g1;have ⟨_,_,_,x0,x1,x2,x3⟩:=B1;have S1:w1.cell? ⟨w.heap.size,3,none⟩=some (.int .i64 k):=B1.2.2.2.2.2.2))
 all_goals
  clear S1 HS
  go_wp2
  have HS:w1.drew.cell? ⟨M,6,none⟩=some (.map (some UB))∧w1.drew.cell? ⟨w.heap.size,0,none⟩=some (.int .i64 21)∧(Instr.lookup 129 (.map (some UB)) (.int .i64 21) false).run Tryz.prog w1.drew=.ok (.int .i64 0) w1.drew:=⟨H1.drew.cells.2.2.2.2.2.2,(B1.keep (grown_drew (grown_refl _ _))).2.2.2.1,clook_qu H1.drew.iu rfl⟩
  go_region_held3 (fun w'=>w'.cell? ⟨M,6,none⟩=some (.map (some UB))∧w'.cell? ⟨w.heap.size,0,none⟩=some (.int .i64 21)∧(Instr.lookup 129 (.map (some UB)) (.int .i64 21) false).run Tryz.prog w'=.ok (.int .i64 0) w')
   (first | exact HS | assumption | exact ⟨(H3.allo _).cells.2.2.2.2.2.2,(B3.keep (World.grownBy_alloc _ _ none)).2.2.2.1,clook_qu (H3.allo _).iu rfl⟩)
   ((first | (go_at_call 146;refine (pceN (n:=2) (cpushCell (16) _ (by omega)) rfl).mono ?_;rintro e w2 ⟨a2,b2,rfl,p2,g2⟩;have H2:=H1.drew.keep g2;have B2:=(B1.keep (grown_drew (grown_refl _ _))).keep g2;have ⟨_,_,_,x0,x1,x2,x3⟩:=B2;have S2:w2.cell? ⟨M,6,none⟩=some (.map (some UB))∧w2.cell? ⟨w.heap.size,0,none⟩=some (.int .i64 21)∧(Instr.lookup 129 (.map (some UB)) (.int .i64 21) false).run Tryz.prog w2=.ok (.int .i64 0) w2:=⟨H2.cells.2.2.2.2.2.2,B2.2.2.2.1,clook_qu H2.iu rfl⟩) | (go_at_call 151;refine (pceN (n:=2) (cask 0 _ (by omega)) rfl).mono ?_;rintro e w3 ⟨a3,b3,rfl,p3,g3⟩;have H3:=H2.keep g3;have B3:=B2.keep g3;have ⟨_,_,_,x0,x1,x2,x3⟩:=B3;have S3:w3.cell? ⟨M,6,none⟩=some (.map (some UB))∧w3.cell? ⟨w.heap.size,0,none⟩=some (.int .i64 21)∧(Instr.lookup 129 (.map (some UB)) (.int .i64 21) false).run Tryz.prog w3=.ok (.int .i64 0) w3:=⟨H3.cells.2.2.2.2.2.2,B3.2.2.2.1,clook_qu H3.iu rfl⟩) | (go_at_call 147;refine (HW.out _ _ _ _ (H3.allo _) (pcs_new3 (p2.keep g3) (((p1.keep (grown_drew (grown_refl _ _))).keep g2).keep g3) p3)).mono ?_;rintro e w5 ⟨rfl,cv5,H5,BB⟩;have B5:=BB _ _ _ _ _ (B3.keep (World.grownBy_alloc _ _ none));have ⟨_,_,_,x0,x1,x2,x3⟩:=B5;have S5:w5.cell? ⟨M,6,none⟩=some (.map (some UB))∧w5.cell? ⟨w.heap.size,0,none⟩=some (.int .i64 21)∧(Instr.lookup 129 (.map (some UB)) (.int .i64 21) false).run Tryz.prog w5=.ok (.int .i64 0) w5:=⟨H5.cells.2.2.2.2.2.2,B5.2.2.2.1,clook_qu H5.iu rfl⟩)))
  all_goals
   clear HS S5
   go_wp2_with (go_at_call 152;refine (HG.out _ _ _ H5).mono ?_;rintro e w6 ⟨rfl,cv6,gv6,H6,BB⟩;have B6:=BB _ _ _ _ _ B5;have ⟨_,_,_,x0,x1,x2,x3⟩:=B6;go_wp2_with (go_at_call 153;refine (pceN (n:=1) (cleap _) rfl).mono ?_;rintro e w7 ⟨a7,b7,rfl,p7,g7⟩;have H7:=H6.keep g7;have B7:=B6.keep g7;have ⟨_,_,_,x0,x1,x2,x3⟩:=B7;go_wp2_with (go_at_call 147;refine (HV.out _ _ _ _ (H7.allo _) (pcs_new1 p7)).mono ?_;rintro e w8 ⟨rfl,cv8,H8,BB⟩;go_wp2_with (go_at_call 152;refine (HK.out _ _ _ H8).mono ?_;rintro e w9 ⟨rfl,cv9,gv9,H9,_⟩))))
   go_end0
   refine ⟨rfl,cv9,gv9,?_⟩
   have e1:(((l++(pC 16++(pW k ++ [8,0]))) ++ [0,0]) ++ [7]) ++ [0,0]=l++piece (kd 21) k 0 0:=by simp only [List.append_assoc];rfl
   have e2:(gs ++ [(((l++(pC 16++(pW k ++ [8,0]))).length:Int)+2,(ss.length:Int)+jt)]) ++ [(((((l++(pC 16++(pW k ++ [8,0]))) ++ [0,0]) ++ [7]).length:Int)+2,(ss.length:Int)+jf)]=gs ++ [((l.length:Int)+11,(ss.length:Int)+jt),((l.length:Int)+14,(ss.length:Int)+jf)]:=by
    rw [List.append_assoc]
    congr 1
    simp [pW,pC]
    omega
   rw [e1,e2] at H9
   exact H9
set_option maxHeartbeats 1000000 in
theorem cj_37 (w0 w:World) (M KB SB OB UB:Nat) (cv sv gv:Value) (l ss:List Int) (gs:List (Int × Int)) (jt jf k:Int) (h:CM w0 w M KB SB OB UB cv sv gv l ss gs) (hl:l.length≤80000) (uk:U32 k) (hs:ss.length≤1000) (hs1:1≤ss.length) (hgs:gs.length≤9000) (hjt:0≤jt∧jt≤4294967295) (hjf:0≤jf∧jf≤4294967295) :
  Calls Tryz.prog 116 #[.pointer (some ⟨M,0,none⟩),.agg #[.int .i64 37,.int .i64 jt,.int .i64 jf,.int .i64 k]] w fun e w'=>e=.returned (.tuple #[])∧∃ cv' gv',CM w0 w' M KB SB OB UB cv' sv gv' (l++piece (kd 37) k 0 0) ss (gs ++ [((l.length:Int)+11,(ss.length:Int)+jt),((l.length:Int)+14,(ss.length:Int)+jf)]):=by
 obtain ⟨c0,c1,c2,c3,c4,c5,c6⟩:=h.cells
 have lM:=h.m.lt
 obtain ⟨k0,k1⟩:=uk
 have H0:=h.allo (.cells #[.int .i64 37,.int .i64 jt,.int .i64 jf,.int .i64 k] 63)
 have B0:=box_new h (.int .i64 37) (.int .i64 jt) (.int .i64 jf) (.int .i64 k) 63
 have HS:(w.alloc (.cells #[.int .i64 37,.int .i64 jt,.int .i64 jf,.int .i64 k] 63)).drew.cell? ⟨w.heap.size,3,none⟩=some (.int .i64 k):=(B0.keep (grown_drew (grown_refl _ _))).2.2.2.2.2.2
 have HW:Hid (∀ (B:Nat) (cv gv:Value) w',CM w0 w' M KB SB OB UB cv sv gv (l) ss (gs)→Pcs w' B [pC 16,pW k,[8,1]]→Calls Tryz.prog 147 #[.pointer (some ⟨M,0,none⟩),.slice (some ⟨B,0,none⟩) 3 3] w' fun e w''=>e=.returned (.tuple #[])∧∃ cv',CM w0 w'' M KB SB OB UB cv' sv gv (l++(pC 16++(pW k ++ [8,1]))) ss (gs)∧∀ B a b c d,BoxS w' M cv gv B a b c d→BoxS w'' M cv' gv B a b c d):=fun B cv gv w' h1 h2=>cwriteB w0 w' M KB SB OB UB cv sv gv (l) ss (gs) B 3 [pC 16,pW k,[8,1]] h1 (by simp) (by simp) (by simp [pW,pC,oC]) (by simp [pW,pC,oC]) (by first | omega | (simp [pW,pC,b2];omega)) h2
 have HG:Hid (∀ (cv gv:Value) w',CM w0 w' M KB SB OB UB cv sv gv (l++(pC 16++(pW k ++ [8,1]))) ss (gs)→Calls Tryz.prog 152 #[.pointer (some ⟨M,0,none⟩),.int .i64 jt] w' fun e w''=>e=.returned (.tuple #[])∧∃ cv' gv',CM w0 w'' M KB SB OB UB cv' sv gv' ((l++(pC 16++(pW k ++ [8,1]))) ++ [0,0]) ss (gs ++ [(((l++(pC 16++(pW k ++ [8,1]))).length:Int)+2,(ss.length:Int)+jt)])∧∀ B a b c d,BoxS w' M cv gv B a b c d→BoxS w'' M cv' gv' B a b c d):=fun cv gv w' h1=>cgap w0 w' M KB SB OB UB cv sv gv (l++(pC 16++(pW k ++ [8,1]))) ss (gs) jt h1 (by first | omega | (simp [pW,pC,b2];omega)) hs hs1 (by first | omega | (simp;omega)) (by omega)
 have HV:Hid (∀ (B:Nat) (cv gv:Value) w',CM w0 w' M KB SB OB UB cv sv gv ((l++(pC 16++(pW k ++ [8,1]))) ++ [0,0]) ss (gs ++ [(((l++(pC 16++(pW k ++ [8,1]))).length:Int)+2,(ss.length:Int)+jt)])→Pcs w' B [[7]]→Calls Tryz.prog 147 #[.pointer (some ⟨M,0,none⟩),.slice (some ⟨B,0,none⟩) 1 1] w' fun e w''=>e=.returned (.tuple #[])∧∃ cv',CM w0 w'' M KB SB OB UB cv' sv gv (((l++(pC 16++(pW k ++ [8,1]))) ++ [0,0]) ++ [7]) ss (gs ++ [(((l++(pC 16++(pW k ++ [8,1]))).length:Int)+2,(ss.length:Int)+jt)])∧∀ B a b c d,BoxS w' M cv gv B a b c d→BoxS w'' M cv' gv B a b c d):=fun B cv gv w' h1 h2=>cwriteB w0 w' M KB SB OB UB cv sv gv ((l++(pC 16++(pW k ++ [8,1]))) ++ [0,0]) ss (gs ++ [(((l++(pC 16++(pW k ++ [8,1]))).length:Int)+2,(ss.length:Int)+jt)]) B 1 [[7]] h1 (by simp) (by simp) (by simp [pW,pC,oC]) (by simp [pW,pC,oC]) (by first | omega | (simp [pW,pC,b2];omega)) h2
 have HK:Hid (∀ (cv gv:Value) w',CM w0 w' M KB SB OB UB cv sv gv (((l++(pC 16++(pW k ++ [8,1]))) ++ [0,0]) ++ [7]) ss (gs ++ [(((l++(pC 16++(pW k ++ [8,1]))).length:Int)+2,(ss.length:Int)+jt)])→Calls Tryz.prog 152 #[.pointer (some ⟨M,0,none⟩),.int .i64 jf] w' fun e w''=>e=.returned (.tuple #[])∧∃ cv' gv',CM w0 w'' M KB SB OB UB cv' sv gv' ((((l++(pC 16++(pW k ++ [8,1]))) ++ [0,0]) ++ [7]) ++ [0,0]) ss ((gs ++ [(((l++(pC 16++(pW k ++ [8,1]))).length:Int)+2,(ss.length:Int)+jt)]) ++ [(((((l++(pC 16++(pW k ++ [8,1]))) ++ [0,0]) ++ [7]).length:Int)+2,(ss.length:Int)+jf)])∧∀ B a b c d,BoxS w' M cv gv B a b c d→BoxS w'' M cv' gv' B a b c d):=fun cv gv w' h1=>cgap w0 w' M KB SB OB UB cv sv gv (((l++(pC 16++(pW k ++ [8,1]))) ++ [0,0]) ++ [7]) ss (gs ++ [(((l++(pC 16++(pW k ++ [8,1]))).length:Int)+2,(ss.length:Int)+jt)]) jf h1 (by first | omega | (simp [pW,pC,b2];omega)) hs hs1 (by first | omega | (simp;omega)) (by omega)
 clear h
 go_enter Tryz.func116,Tryz.ntmps116
 go_wp2
 go_region_held3 (fun w'=>w'.cell? ⟨w.heap.size,3,none⟩=some (.int .i64 k))
  (first | exact HS | assumption)
  ((go_at_call 144;refine (pceN (n:=5) (cpushWord (k) _ k0) rfl).mono ?_;rintro e w1 ⟨a1,b1,rfl,p1,g1⟩;have H1:=H0.drew.keep g1;have B1:=(B0.keep (grown_drew (grown_refl _ _))).keep g1;have ⟨_,_,_,x0,x1,x2,x3⟩:=B1;have S1:w1.cell? ⟨w.heap.size,3,none⟩=some (.int .i64 k):=B1.2.2.2.2.2.2))
 all_goals
  clear S1 HS
  go_wp2
  have HS:w1.drew.cell? ⟨M,6,none⟩=some (.map (some UB))∧w1.drew.cell? ⟨w.heap.size,0,none⟩=some (.int .i64 37)∧(Instr.lookup 129 (.map (some UB)) (.int .i64 37) false).run Tryz.prog w1.drew=.ok (.int .i64 1) w1.drew:=⟨H1.drew.cells.2.2.2.2.2.2,(B1.keep (grown_drew (grown_refl _ _))).2.2.2.1,clook_qu H1.drew.iu rfl⟩
  go_region_held3 (fun w'=>w'.cell? ⟨M,6,none⟩=some (.map (some UB))∧w'.cell? ⟨w.heap.size,0,none⟩=some (.int .i64 37)∧(Instr.lookup 129 (.map (some UB)) (.int .i64 37) false).run Tryz.prog w'=.ok (.int .i64 1) w')
   (first | exact HS | assumption | exact ⟨(H3.allo _).cells.2.2.2.2.2.2,(B3.keep (World.grownBy_alloc _ _ none)).2.2.2.1,clook_qu (H3.allo _).iu rfl⟩)
   ((first | (go_at_call 146;refine (pceN (n:=2) (cpushCell (16) _ (by omega)) rfl).mono ?_;rintro e w2 ⟨a2,b2,rfl,p2,g2⟩;have H2:=H1.drew.keep g2;have B2:=(B1.keep (grown_drew (grown_refl _ _))).keep g2;have ⟨_,_,_,x0,x1,x2,x3⟩:=B2;have S2:w2.cell? ⟨M,6,none⟩=some (.map (some UB))∧w2.cell? ⟨w.heap.size,0,none⟩=some (.int .i64 37)∧(Instr.lookup 129 (.map (some UB)) (.int .i64 37) false).run Tryz.prog w2=.ok (.int .i64 1) w2:=⟨H2.cells.2.2.2.2.2.2,B2.2.2.2.1,clook_qu H2.iu rfl⟩) | (go_at_call 151;refine (pceN (n:=2) (cask 1 _ (by omega)) rfl).mono ?_;rintro e w3 ⟨a3,b3,rfl,p3,g3⟩;have H3:=H2.keep g3;have B3:=B2.keep g3;have ⟨_,_,_,x0,x1,x2,x3⟩:=B3;have S3:w3.cell? ⟨M,6,none⟩=some (.map (some UB))∧w3.cell? ⟨w.heap.size,0,none⟩=some (.int .i64 37)∧(Instr.lookup 129 (.map (some UB)) (.int .i64 37) false).run Tryz.prog w3=.ok (.int .i64 1) w3:=⟨H3.cells.2.2.2.2.2.2,B3.2.2.2.1,clook_qu H3.iu rfl⟩) | (go_at_call 147;refine (HW.out _ _ _ _ (H3.allo _) (pcs_new3 (p2.keep g3) (((p1.keep (grown_drew (grown_refl _ _))).keep g2).keep g3) p3)).mono ?_;rintro e w5 ⟨rfl,cv5,H5,BB⟩;have B5:=BB _ _ _ _ _ (B3.keep (World.grownBy_alloc _ _ none));have ⟨_,_,_,x0,x1,x2,x3⟩:=B5;have S5:w5.cell? ⟨M,6,none⟩=some (.map (some UB))∧w5.cell? ⟨w.heap.size,0,none⟩=some (.int .i64 37)∧(Instr.lookup 129 (.map (some UB)) (.int .i64 37) false).run Tryz.prog w5=.ok (.int .i64 1) w5:=⟨H5.cells.2.2.2.2.2.2,B5.2.2.2.1,clook_qu H5.iu rfl⟩)))
  all_goals
   clear HS S5
   go_wp2_with (go_at_call 152;refine (HG.out _ _ _ H5).mono ?_;rintro e w6 ⟨rfl,cv6,gv6,H6,BB⟩;have B6:=BB _ _ _ _ _ B5;have ⟨_,_,_,x0,x1,x2,x3⟩:=B6;go_wp2_with (go_at_call 153;refine (pceN (n:=1) (cleap _) rfl).mono ?_;rintro e w7 ⟨a7,b7,rfl,p7,g7⟩;have H7:=H6.keep g7;have B7:=B6.keep g7;have ⟨_,_,_,x0,x1,x2,x3⟩:=B7;go_wp2_with (go_at_call 147;refine (HV.out _ _ _ _ (H7.allo _) (pcs_new1 p7)).mono ?_;rintro e w8 ⟨rfl,cv8,H8,BB⟩;go_wp2_with (go_at_call 152;refine (HK.out _ _ _ H8).mono ?_;rintro e w9 ⟨rfl,cv9,gv9,H9,_⟩))))
   go_end0
   refine ⟨rfl,cv9,gv9,?_⟩
   have e1:(((l++(pC 16++(pW k ++ [8,1]))) ++ [0,0]) ++ [7]) ++ [0,0]=l++piece (kd 37) k 0 0:=by simp only [List.append_assoc];rfl
   have e2:(gs ++ [(((l++(pC 16++(pW k ++ [8,1]))).length:Int)+2,(ss.length:Int)+jt)]) ++ [(((((l++(pC 16++(pW k ++ [8,1]))) ++ [0,0]) ++ [7]).length:Int)+2,(ss.length:Int)+jf)]=gs ++ [((l.length:Int)+11,(ss.length:Int)+jt),((l.length:Int)+14,(ss.length:Int)+jf)]:=by
    rw [List.append_assoc]
    congr 1
    simp [pW,pC]
    omega
   rw [e1,e2] at H9
   exact H9
set_option maxHeartbeats 1000000 in
theorem cj_53 (w0 w:World) (M KB SB OB UB:Nat) (cv sv gv:Value) (l ss:List Int) (gs:List (Int × Int)) (jt jf k:Int) (h:CM w0 w M KB SB OB UB cv sv gv l ss gs) (hl:l.length≤80000) (uk:U32 k) (hs:ss.length≤1000) (hs1:1≤ss.length) (hgs:gs.length≤9000) (hjt:0≤jt∧jt≤4294967295) (hjf:0≤jf∧jf≤4294967295) :
  Calls Tryz.prog 116 #[.pointer (some ⟨M,0,none⟩),.agg #[.int .i64 53,.int .i64 jt,.int .i64 jf,.int .i64 k]] w fun e w'=>e=.returned (.tuple #[])∧∃ cv' gv',CM w0 w' M KB SB OB UB cv' sv gv' (l++piece (kd 53) k 0 0) ss (gs ++ [((l.length:Int)+11,(ss.length:Int)+jt),((l.length:Int)+14,(ss.length:Int)+jf)]):=by
 obtain ⟨c0,c1,c2,c3,c4,c5,c6⟩:=h.cells
 have lM:=h.m.lt
 obtain ⟨k0,k1⟩:=uk
 have H0:=h.allo (.cells #[.int .i64 53,.int .i64 jt,.int .i64 jf,.int .i64 k] 63)
 have B0:=box_new h (.int .i64 53) (.int .i64 jt) (.int .i64 jf) (.int .i64 k) 63
 have HS:(w.alloc (.cells #[.int .i64 53,.int .i64 jt,.int .i64 jf,.int .i64 k] 63)).drew.cell? ⟨w.heap.size,3,none⟩=some (.int .i64 k):=(B0.keep (grown_drew (grown_refl _ _))).2.2.2.2.2.2
 have HW:Hid (∀ (B:Nat) (cv gv:Value) w',CM w0 w' M KB SB OB UB cv sv gv (l) ss (gs)→Pcs w' B [pC 16,pW k,[8,2]]→Calls Tryz.prog 147 #[.pointer (some ⟨M,0,none⟩),.slice (some ⟨B,0,none⟩) 3 3] w' fun e w''=>e=.returned (.tuple #[])∧∃ cv',CM w0 w'' M KB SB OB UB cv' sv gv (l++(pC 16++(pW k ++ [8,2]))) ss (gs)∧∀ B a b c d,BoxS w' M cv gv B a b c d→BoxS w'' M cv' gv B a b c d):=fun B cv gv w' h1 h2=>cwriteB w0 w' M KB SB OB UB cv sv gv (l) ss (gs) B 3 [pC 16,pW k,[8,2]] h1 (by simp) (by simp) (by simp [pW,pC,oC]) (by simp [pW,pC,oC]) (by first | omega | (simp [pW,pC,b2];omega)) h2
 have HG:Hid (∀ (cv gv:Value) w',CM w0 w' M KB SB OB UB cv sv gv (l++(pC 16++(pW k ++ [8,2]))) ss (gs)→Calls Tryz.prog 152 #[.pointer (some ⟨M,0,none⟩),.int .i64 jt] w' fun e w''=>e=.returned (.tuple #[])∧∃ cv' gv',CM w0 w'' M KB SB OB UB cv' sv gv' ((l++(pC 16++(pW k ++ [8,2]))) ++ [0,0]) ss (gs ++ [(((l++(pC 16++(pW k ++ [8,2]))).length:Int)+2,(ss.length:Int)+jt)])∧∀ B a b c d,BoxS w' M cv gv B a b c d→BoxS w'' M cv' gv' B a b c d):=fun cv gv w' h1=>cgap w0 w' M KB SB OB UB cv sv gv (l++(pC 16++(pW k ++ [8,2]))) ss (gs) jt h1 (by first | omega | (simp [pW,pC,b2];omega)) hs hs1 (by first | omega | (simp;omega)) (by omega)
 have HV:Hid (∀ (B:Nat) (cv gv:Value) w',CM w0 w' M KB SB OB UB cv sv gv ((l++(pC 16++(pW k ++ [8,2]))) ++ [0,0]) ss (gs ++ [(((l++(pC 16++(pW k ++ [8,2]))).length:Int)+2,(ss.length:Int)+jt)])→Pcs w' B [[7]]→Calls Tryz.prog 147 #[.pointer (some ⟨M,0,none⟩),.slice (some ⟨B,0,none⟩) 1 1] w' fun e w''=>e=.returned (.tuple #[])∧∃ cv',CM w0 w'' M KB SB OB UB cv' sv gv (((l++(pC 16++(pW k ++ [8,2]))) ++ [0,0]) ++ [7]) ss (gs ++ [(((l++(pC 16++(pW k ++ [8,2]))).length:Int)+2,(ss.length:Int)+jt)])∧∀ B a b c d,BoxS w' M cv gv B a b c d→BoxS w'' M cv' gv B a b c d):=fun B cv gv w' h1 h2=>cwriteB w0 w' M KB SB OB UB cv sv gv ((l++(pC 16++(pW k ++ [8,2]))) ++ [0,0]) ss (gs ++ [(((l++(pC 16++(pW k ++ [8,2]))).length:Int)+2,(ss.length:Int)+jt)]) B 1 [[7]] h1 (by simp) (by simp) (by simp [pW,pC,oC]) (by simp [pW,pC,oC]) (by first | omega | (simp [pW,pC,b2];omega)) h2
 have HK:Hid (∀ (cv gv:Value) w',CM w0 w' M KB SB OB UB cv sv gv (((l++(pC 16++(pW k ++ [8,2]))) ++ [0,0]) ++ [7]) ss (gs ++ [(((l++(pC 16++(pW k ++ [8,2]))).length:Int)+2,(ss.length:Int)+jt)])→Calls Tryz.prog 152 #[.pointer (some ⟨M,0,none⟩),.int .i64 jf] w' fun e w''=>e=.returned (.tuple #[])∧∃ cv' gv',CM w0 w'' M KB SB OB UB cv' sv gv' ((((l++(pC 16++(pW k ++ [8,2]))) ++ [0,0]) ++ [7]) ++ [0,0]) ss ((gs ++ [(((l++(pC 16++(pW k ++ [8,2]))).length:Int)+2,(ss.length:Int)+jt)]) ++ [(((((l++(pC 16++(pW k ++ [8,2]))) ++ [0,0]) ++ [7]).length:Int)+2,(ss.length:Int)+jf)])∧∀ B a b c d,BoxS w' M cv gv B a b c d→BoxS w'' M cv' gv' B a b c d):=fun cv gv w' h1=>cgap w0 w' M KB SB OB UB cv sv gv (((l++(pC 16++(pW k ++ [8,2]))) ++ [0,0]) ++ [7]) ss (gs ++ [(((l++(pC 16++(pW k ++ [8,2]))).length:Int)+2,(ss.length:Int)+jt)]) jf h1 (by first | omega | (simp [pW,pC,b2];omega)) hs hs1 (by first | omega | (simp;omega)) (by omega)
 clear h
 go_enter Tryz.func116,Tryz.ntmps116
 go_wp2
 go_region_held3 (fun w'=>w'.cell? ⟨w.heap.size,3,none⟩=some (.int .i64 k))
  (first | exact HS | assumption)
  ((go_at_call 144;refine (pceN (n:=5) (cpushWord (k) _ k0) rfl).mono ?_;rintro e w1 ⟨a1,b1,rfl,p1,g1⟩;have H1:=H0.drew.keep g1;have B1:=(B0.keep (grown_drew (grown_refl _ _))).keep g1;have ⟨_,_,_,x0,x1,x2,x3⟩:=B1;have S1:w1.cell? ⟨w.heap.size,3,none⟩=some (.int .i64 k):=B1.2.2.2.2.2.2))
 all_goals
  clear S1 HS
  go_wp2
  have HS:w1.drew.cell? ⟨M,6,none⟩=some (.map (some UB))∧w1.drew.cell? ⟨w.heap.size,0,none⟩=some (.int .i64 53)∧(Instr.lookup 129 (.map (some UB)) (.int .i64 53) false).run Tryz.prog w1.drew=.ok (.int .i64 2) w1.drew:=⟨H1.drew.cells.2.2.2.2.2.2,(B1.keep (grown_drew (grown_refl _ _))).2.2.2.1,clook_qu H1.drew.iu rfl⟩
  go_region_held3 (fun w'=>w'.cell? ⟨M,6,none⟩=some (.map (some UB))∧w'.cell? ⟨w.heap.size,0,none⟩=some (.int .i64 53)∧(Instr.lookup 129 (.map (some UB)) (.int .i64 53) false).run Tryz.prog w'=.ok (.int .i64 2) w')
   (first | exact HS | assumption | exact ⟨(H3.allo _).cells.2.2.2.2.2.2,(B3.keep (World.grownBy_alloc _ _ none)).2.2.2.1,clook_qu (H3.allo _).iu rfl⟩)
   ((first | (go_at_call 146;refine (pceN (n:=2) (cpushCell (16) _ (by omega)) rfl).mono ?_;rintro e w2 ⟨a2,b2,rfl,p2,g2⟩;have H2:=H1.drew.keep g2;have B2:=(B1.keep (grown_drew (grown_refl _ _))).keep g2;have ⟨_,_,_,x0,x1,x2,x3⟩:=B2;have S2:w2.cell? ⟨M,6,none⟩=some (.map (some UB))∧w2.cell? ⟨w.heap.size,0,none⟩=some (.int .i64 53)∧(Instr.lookup 129 (.map (some UB)) (.int .i64 53) false).run Tryz.prog w2=.ok (.int .i64 2) w2:=⟨H2.cells.2.2.2.2.2.2,B2.2.2.2.1,clook_qu H2.iu rfl⟩) | (go_at_call 151;refine (pceN (n:=2) (cask 2 _ (by omega)) rfl).mono ?_;rintro e w3 ⟨a3,b3,rfl,p3,g3⟩;have H3:=H2.keep g3;have B3:=B2.keep g3;have ⟨_,_,_,x0,x1,x2,x3⟩:=B3;have S3:w3.cell? ⟨M,6,none⟩=some (.map (some UB))∧w3.cell? ⟨w.heap.size,0,none⟩=some (.int .i64 53)∧(Instr.lookup 129 (.map (some UB)) (.int .i64 53) false).run Tryz.prog w3=.ok (.int .i64 2) w3:=⟨H3.cells.2.2.2.2.2.2,B3.2.2.2.1,clook_qu H3.iu rfl⟩) | (go_at_call 147;refine (HW.out _ _ _ _ (H3.allo _) (pcs_new3 (p2.keep g3) (((p1.keep (grown_drew (grown_refl _ _))).keep g2).keep g3) p3)).mono ?_;rintro e w5 ⟨rfl,cv5,H5,BB⟩;have B5:=BB _ _ _ _ _ (B3.keep (World.grownBy_alloc _ _ none));have ⟨_,_,_,x0,x1,x2,x3⟩:=B5;have S5:w5.cell? ⟨M,6,none⟩=some (.map (some UB))∧w5.cell? ⟨w.heap.size,0,none⟩=some (.int .i64 53)∧(Instr.lookup 129 (.map (some UB)) (.int .i64 53) false).run Tryz.prog w5=.ok (.int .i64 2) w5:=⟨H5.cells.2.2.2.2.2.2,B5.2.2.2.1,clook_qu H5.iu rfl⟩)))
  all_goals
   clear HS S5
   go_wp2_with (go_at_call 152;refine (HG.out _ _ _ H5).mono ?_;rintro e w6 ⟨rfl,cv6,gv6,H6,BB⟩;have B6:=BB _ _ _ _ _ B5;have ⟨_,_,_,x0,x1,x2,x3⟩:=B6;go_wp2_with (go_at_call 153;refine (pceN (n:=1) (cleap _) rfl).mono ?_;rintro e w7 ⟨a7,b7,rfl,p7,g7⟩;have H7:=H6.keep g7;have B7:=B6.keep g7;have ⟨_,_,_,x0,x1,x2,x3⟩:=B7;go_wp2_with (go_at_call 147;refine (HV.out _ _ _ _ (H7.allo _) (pcs_new1 p7)).mono ?_;rintro e w8 ⟨rfl,cv8,H8,BB⟩;go_wp2_with (go_at_call 152;refine (HK.out _ _ _ H8).mono ?_;rintro e w9 ⟨rfl,cv9,gv9,H9,_⟩))))
   go_end0
   refine ⟨rfl,cv9,gv9,?_⟩
   have e1:(((l++(pC 16++(pW k ++ [8,2]))) ++ [0,0]) ++ [7]) ++ [0,0]=l++piece (kd 53) k 0 0:=by simp only [List.append_assoc];rfl
   have e2:(gs ++ [(((l++(pC 16++(pW k ++ [8,2]))).length:Int)+2,(ss.length:Int)+jt)]) ++ [(((((l++(pC 16++(pW k ++ [8,2]))) ++ [0,0]) ++ [7]).length:Int)+2,(ss.length:Int)+jf)]=gs ++ [((l.length:Int)+11,(ss.length:Int)+jt),((l.length:Int)+14,(ss.length:Int)+jf)]:=by
    rw [List.append_assoc]
    congr 1
    simp [pW,pC]
    omega
   rw [e1,e2] at H9
   exact H9
set_option maxHeartbeats 1000000 in
theorem cj_69 (w0 w:World) (M KB SB OB UB:Nat) (cv sv gv:Value) (l ss:List Int) (gs:List (Int × Int)) (jt jf k:Int) (h:CM w0 w M KB SB OB UB cv sv gv l ss gs) (hl:l.length≤80000) (uk:U32 k) (hs:ss.length≤1000) (hs1:1≤ss.length) (hgs:gs.length≤9000) (hjt:0≤jt∧jt≤4294967295) (hjf:0≤jf∧jf≤4294967295) :
  Calls Tryz.prog 116 #[.pointer (some ⟨M,0,none⟩),.agg #[.int .i64 69,.int .i64 jt,.int .i64 jf,.int .i64 k]] w fun e w'=>e=.returned (.tuple #[])∧∃ cv' gv',CM w0 w' M KB SB OB UB cv' sv gv' (l++piece (kd 69) k 0 0) ss (gs ++ [((l.length:Int)+11,(ss.length:Int)+jt),((l.length:Int)+14,(ss.length:Int)+jf)]):=by
 obtain ⟨c0,c1,c2,c3,c4,c5,c6⟩:=h.cells
 have lM:=h.m.lt
 obtain ⟨k0,k1⟩:=uk
 have H0:=h.allo (.cells #[.int .i64 69,.int .i64 jt,.int .i64 jf,.int .i64 k] 63)
 have B0:=box_new h (.int .i64 69) (.int .i64 jt) (.int .i64 jf) (.int .i64 k) 63
 have HS:(w.alloc (.cells #[.int .i64 69,.int .i64 jt,.int .i64 jf,.int .i64 k] 63)).drew.cell? ⟨w.heap.size,3,none⟩=some (.int .i64 k):=(B0.keep (grown_drew (grown_refl _ _))).2.2.2.2.2.2
 have HW:Hid (∀ (B:Nat) (cv gv:Value) w',CM w0 w' M KB SB OB UB cv sv gv (l) ss (gs)→Pcs w' B [pC 16,pW k,[8,3]]→Calls Tryz.prog 147 #[.pointer (some ⟨M,0,none⟩),.slice (some ⟨B,0,none⟩) 3 3] w' fun e w''=>e=.returned (.tuple #[])∧∃ cv',CM w0 w'' M KB SB OB UB cv' sv gv (l++(pC 16++(pW k ++ [8,3]))) ss (gs)∧∀ B a b c d,BoxS w' M cv gv B a b c d→BoxS w'' M cv' gv B a b c d):=fun B cv gv w' h1 h2=>cwriteB w0 w' M KB SB OB UB cv sv gv (l) ss (gs) B 3 [pC 16,pW k,[8,3]] h1 (by simp) (by simp) (by simp [pW,pC,oC]) (by simp [pW,pC,oC]) (by first | omega | (simp [pW,pC,b2];omega)) h2
 have HG:Hid (∀ (cv gv:Value) w',CM w0 w' M KB SB OB UB cv sv gv (l++(pC 16++(pW k ++ [8,3]))) ss (gs)→Calls Tryz.prog 152 #[.pointer (some ⟨M,0,none⟩),.int .i64 jt] w' fun e w''=>e=.returned (.tuple #[])∧∃ cv' gv',CM w0 w'' M KB SB OB UB cv' sv gv' ((l++(pC 16++(pW k ++ [8,3]))) ++ [0,0]) ss (gs ++ [(((l++(pC 16++(pW k ++ [8,3]))).length:Int)+2,(ss.length:Int)+jt)])∧∀ B a b c d,BoxS w' M cv gv B a b c d→BoxS w'' M cv' gv' B a b c d):=fun cv gv w' h1=>cgap w0 w' M KB SB OB UB cv sv gv (l++(pC 16++(pW k ++ [8,3]))) ss (gs) jt h1 (by first | omega | (simp [pW,pC,b2];omega)) hs hs1 (by first | omega | (simp;omega)) (by omega)
 have HV:Hid (∀ (B:Nat) (cv gv:Value) w',CM w0 w' M KB SB OB UB cv sv gv ((l++(pC 16++(pW k ++ [8,3]))) ++ [0,0]) ss (gs ++ [(((l++(pC 16++(pW k ++ [8,3]))).length:Int)+2,(ss.length:Int)+jt)])→Pcs w' B [[7]]→Calls Tryz.prog 147 #[.pointer (some ⟨M,0,none⟩),.slice (some ⟨B,0,none⟩) 1 1] w' fun e w''=>e=.returned (.tuple #[])∧∃ cv',CM w0 w'' M KB SB OB UB cv' sv gv (((l++(pC 16++(pW k ++ [8,3]))) ++ [0,0]) ++ [7]) ss (gs ++ [(((l++(pC 16++(pW k ++ [8,3]))).length:Int)+2,(ss.length:Int)+jt)])∧∀ B a b c d,BoxS w' M cv gv B a b c d→BoxS w'' M cv' gv B a b c d):=fun B cv gv w' h1 h2=>cwriteB w0 w' M KB SB OB UB cv sv gv ((l++(pC 16++(pW k ++ [8,3]))) ++ [0,0]) ss (gs ++ [(((l++(pC 16++(pW k ++ [8,3]))).length:Int)+2,(ss.length:Int)+jt)]) B 1 [[7]] h1 (by simp) (by simp) (by simp [pW,pC,oC]) (by simp [pW,pC,oC]) (by first | omega | (simp [pW,pC,b2];omega)) h2
 have HK:Hid (∀ (cv gv:Value) w',CM w0 w' M KB SB OB UB cv sv gv (((l++(pC 16++(pW k ++ [8,3]))) ++ [0,0]) ++ [7]) ss (gs ++ [(((l++(pC 16++(pW k ++ [8,3]))).length:Int)+2,(ss.length:Int)+jt)])→Calls Tryz.prog 152 #[.pointer (some ⟨M,0,none⟩),.int .i64 jf] w' fun e w''=>e=.returned (.tuple #[])∧∃ cv' gv',CM w0 w'' M KB SB OB UB cv' sv gv' ((((l++(pC 16++(pW k ++ [8,3]))) ++ [0,0]) ++ [7]) ++ [0,0]) ss ((gs ++ [(((l++(pC 16++(pW k ++ [8,3]))).length:Int)+2,(ss.length:Int)+jt)]) ++ [(((((l++(pC 16++(pW k ++ [8,3]))) ++ [0,0]) ++ [7]).length:Int)+2,(ss.length:Int)+jf)])∧∀ B a b c d,BoxS w' M cv gv B a b c d→BoxS w'' M cv' gv' B a b c d):=fun cv gv w' h1=>cgap w0 w' M KB SB OB UB cv sv gv (((l++(pC 16++(pW k ++ [8,3]))) ++ [0,0]) ++ [7]) ss (gs ++ [(((l++(pC 16++(pW k ++ [8,3]))).length:Int)+2,(ss.length:Int)+jt)]) jf h1 (by first | omega | (simp [pW,pC,b2];omega)) hs hs1 (by first | omega | (simp;omega)) (by omega)
 clear h
 go_enter Tryz.func116,Tryz.ntmps116
 go_wp2
 go_region_held3 (fun w'=>w'.cell? ⟨w.heap.size,3,none⟩=some (.int .i64 k))
  (first | exact HS | assumption)
  ((go_at_call 144;refine (pceN (n:=5) (cpushWord (k) _ k0) rfl).mono ?_;rintro e w1 ⟨a1,b1,rfl,p1,g1⟩;have H1:=H0.drew.keep g1;have B1:=(B0.keep (grown_drew (grown_refl _ _))).keep g1;have ⟨_,_,_,x0,x1,x2,x3⟩:=B1;have S1:w1.cell? ⟨w.heap.size,3,none⟩=some (.int .i64 k):=B1.2.2.2.2.2.2))
 all_goals
  clear S1 HS
  go_wp2
  have HS:w1.drew.cell? ⟨M,6,none⟩=some (.map (some UB))∧w1.drew.cell? ⟨w.heap.size,0,none⟩=some (.int .i64 69)∧(Instr.lookup 129 (.map (some UB)) (.int .i64 69) false).run Tryz.prog w1.drew=.ok (.int .i64 3) w1.drew:=⟨H1.drew.cells.2.2.2.2.2.2,(B1.keep (grown_drew (grown_refl _ _))).2.2.2.1,clook_qu H1.drew.iu rfl⟩
  go_region_held3 (fun w'=>w'.cell? ⟨M,6,none⟩=some (.map (some UB))∧w'.cell? ⟨w.heap.size,0,none⟩=some (.int .i64 69)∧(Instr.lookup 129 (.map (some UB)) (.int .i64 69) false).run Tryz.prog w'=.ok (.int .i64 3) w')
   (first | exact HS | assumption | exact ⟨(H3.allo _).cells.2.2.2.2.2.2,(B3.keep (World.grownBy_alloc _ _ none)).2.2.2.1,clook_qu (H3.allo _).iu rfl⟩)
   ((first | (go_at_call 146;refine (pceN (n:=2) (cpushCell (16) _ (by omega)) rfl).mono ?_;rintro e w2 ⟨a2,b2,rfl,p2,g2⟩;have H2:=H1.drew.keep g2;have B2:=(B1.keep (grown_drew (grown_refl _ _))).keep g2;have ⟨_,_,_,x0,x1,x2,x3⟩:=B2;have S2:w2.cell? ⟨M,6,none⟩=some (.map (some UB))∧w2.cell? ⟨w.heap.size,0,none⟩=some (.int .i64 69)∧(Instr.lookup 129 (.map (some UB)) (.int .i64 69) false).run Tryz.prog w2=.ok (.int .i64 3) w2:=⟨H2.cells.2.2.2.2.2.2,B2.2.2.2.1,clook_qu H2.iu rfl⟩) | (go_at_call 151;refine (pceN (n:=2) (cask 3 _ (by omega)) rfl).mono ?_;rintro e w3 ⟨a3,b3,rfl,p3,g3⟩;have H3:=H2.keep g3;have B3:=B2.keep g3;have ⟨_,_,_,x0,x1,x2,x3⟩:=B3;have S3:w3.cell? ⟨M,6,none⟩=some (.map (some UB))∧w3.cell? ⟨w.heap.size,0,none⟩=some (.int .i64 69)∧(Instr.lookup 129 (.map (some UB)) (.int .i64 69) false).run Tryz.prog w3=.ok (.int .i64 3) w3:=⟨H3.cells.2.2.2.2.2.2,B3.2.2.2.1,clook_qu H3.iu rfl⟩) | (go_at_call 147;refine (HW.out _ _ _ _ (H3.allo _) (pcs_new3 (p2.keep g3) (((p1.keep (grown_drew (grown_refl _ _))).keep g2).keep g3) p3)).mono ?_;rintro e w5 ⟨rfl,cv5,H5,BB⟩;have B5:=BB _ _ _ _ _ (B3.keep (World.grownBy_alloc _ _ none));have ⟨_,_,_,x0,x1,x2,x3⟩:=B5;have S5:w5.cell? ⟨M,6,none⟩=some (.map (some UB))∧w5.cell? ⟨w.heap.size,0,none⟩=some (.int .i64 69)∧(Instr.lookup 129 (.map (some UB)) (.int .i64 69) false).run Tryz.prog w5=.ok (.int .i64 3) w5:=⟨H5.cells.2.2.2.2.2.2,B5.2.2.2.1,clook_qu H5.iu rfl⟩)))
  all_goals
   clear HS S5
   go_wp2_with (go_at_call 152;refine (HG.out _ _ _ H5).mono ?_;rintro e w6 ⟨rfl,cv6,gv6,H6,BB⟩;have B6:=BB _ _ _ _ _ B5;have ⟨_,_,_,x0,x1,x2,x3⟩:=B6;go_wp2_with (go_at_call 153;refine (pceN (n:=1) (cleap _) rfl).mono ?_;rintro e w7 ⟨a7,b7,rfl,p7,g7⟩;have H7:=H6.keep g7;have B7:=B6.keep g7;have ⟨_,_,_,x0,x1,x2,x3⟩:=B7;go_wp2_with (go_at_call 147;refine (HV.out _ _ _ _ (H7.allo _) (pcs_new1 p7)).mono ?_;rintro e w8 ⟨rfl,cv8,H8,BB⟩;go_wp2_with (go_at_call 152;refine (HK.out _ _ _ H8).mono ?_;rintro e w9 ⟨rfl,cv9,gv9,H9,_⟩))))
   go_end0
   refine ⟨rfl,cv9,gv9,?_⟩
   have e1:(((l++(pC 16++(pW k ++ [8,3]))) ++ [0,0]) ++ [7]) ++ [0,0]=l++piece (kd 69) k 0 0:=by simp only [List.append_assoc];rfl
   have e2:(gs ++ [(((l++(pC 16++(pW k ++ [8,3]))).length:Int)+2,(ss.length:Int)+jt)]) ++ [(((((l++(pC 16++(pW k ++ [8,3]))) ++ [0,0]) ++ [7]).length:Int)+2,(ss.length:Int)+jf)]=gs ++ [((l.length:Int)+11,(ss.length:Int)+jt),((l.length:Int)+14,(ss.length:Int)+jf)]:=by
    rw [List.append_assoc]
    congr 1
    simp [pW,pC]
    omega
   rw [e1,e2] at H9
   exact H9
end Go.Proofs.YthbcfepbkkbjiaaGreatDoor
