import Derived.Test.YthbcfepbkkbjiaaGreatDoorID1
set_option linter.unusedSimpArgs false
set_option linter.unusedVariables false
set_option maxRecDepth 100000
namespace Go.Proofs.YthbcfepbkkbjiaaGreatDoor
open Go.RowKit
set_option maxHeartbeats 1000000 in
theorem cf_0 (w0 w:World) (M KB SB OB UB:Nat) (cv sv gv:Value) (l ss:List Int) (gs:List (Int × Int)) (jt jf k:Int) (h:CM w0 w M KB SB OB UB cv sv gv l ss gs) (hl:l.length≤80000) (uk:U32 k) :
  Calls Tryz.prog 113 #[.pointer (some ⟨M,0,none⟩),.agg #[.int .i64 0,.int .i64 jt,.int .i64 jf,.int .i64 k]] w fun e w'=>e=.returned (.tuple #[])∧∃ cv',CM w0 w' M KB SB OB UB cv' sv gv (l++piece (kd 0) k 0 0) ss gs:=by
 obtain ⟨c0,c1,c2,c3,c4,c5,c6⟩:=h.cells
 have lM:=h.m.lt
 obtain ⟨k0,k1⟩:=uk
 have H0:=h.allo (.cells #[.int .i64 0,.int .i64 jt,.int .i64 jf,.int .i64 k] 63)
 have B0:=box_new h (.int .i64 0) (.int .i64 jt) (.int .i64 jf) (.int .i64 k) 63
 have HW:Hid (∀ (B:Nat) (cv:Value) w',CM w0 w' M KB SB OB UB cv sv gv (l) ss gs→Pcs w' B [pW (k),oC (16)]→Calls Tryz.prog 147 #[.pointer (some ⟨M,0,none⟩),.slice (some ⟨B,0,none⟩) 2 2] w' fun e w''=>e=.returned (.tuple #[])∧∃ cv',CM w0 w'' M KB SB OB UB cv' sv gv (l++piece (kd 0) k 0 0) ss gs∧∀ B a b c d,BoxS w' M cv gv B a b c d→BoxS w'' M cv' gv B a b c d):=fun B cv w' h1 h2=>cwriteB w0 w' M KB SB OB UB cv sv gv (l) ss gs B 2 [pW (k),oC (16)] h1 (by simp) (by simp) (by simp [pW,pC,oC]) (by simp [pW,pC,oC]) (by first | omega | (simp [pW,pC,oC];omega)) h2
 clear h
 go_enter Tryz.func113,Tryz.ntmps113
 go_wp2_with (go_at_call 144;refine (pceN (n:=5) (cpushWord (k) _ k0) rfl).mono ?_;rintro e w1 ⟨a1,b1,rfl,p1,g1⟩;have H1:=H0.keep g1;have B1:=B0.keep g1;have ⟨_,_,_,x0,x1,x2,x3⟩:=B1;go_wp2_with (go_at_call 148;refine (pceN (n:=2) (cpopCell (16) _ (by omega)) rfl).mono ?_;rintro e w2 ⟨a2,b2,rfl,p2,g2⟩;have H2:=H1.keep g2;have B2:=B1.keep g2;have ⟨_,_,_,x0,x1,x2,x3⟩:=B2;go_wp2_with (go_at_call 147;refine (HW.out _ _ _ (H2.allo _) (pcs_new2 (p1.keep g2) p2)).mono ?_;rintro e wz ⟨rfl,cz,Hz,_⟩)))
 go_end0
 exact ⟨rfl,cz,Hz⟩
set_option maxHeartbeats 1000000 in
theorem cf_96 (w0 w:World) (M KB SB OB UB:Nat) (cv sv gv:Value) (l ss:List Int) (gs:List (Int × Int)) (jt jf k:Int) (h:CM w0 w M KB SB OB UB cv sv gv l ss gs) (hl:l.length≤80000) (uk:U32 k) (k16:k<16) :
  Calls Tryz.prog 113 #[.pointer (some ⟨M,0,none⟩),.agg #[.int .i64 96,.int .i64 jt,.int .i64 jf,.int .i64 k]] w fun e w'=>e=.returned (.tuple #[])∧∃ cv',CM w0 w' M KB SB OB UB cv' sv gv (l++piece (kd 96) k 0 0) ss gs:=by
 obtain ⟨c0,c1,c2,c3,c4,c5,c6⟩:=h.cells
 have lM:=h.m.lt
 obtain ⟨k0,k1⟩:=uk
 have H0:=h.allo (.cells #[.int .i64 96,.int .i64 jt,.int .i64 jf,.int .i64 k] 63)
 have B0:=box_new h (.int .i64 96) (.int .i64 jt) (.int .i64 jf) (.int .i64 k) 63
 have HW:Hid (∀ (B:Nat) (cv:Value) w',CM w0 w' M KB SB OB UB cv sv gv (l) ss gs→Pcs w' B [pC (k),oC (16)]→Calls Tryz.prog 147 #[.pointer (some ⟨M,0,none⟩),.slice (some ⟨B,0,none⟩) 2 2] w' fun e w''=>e=.returned (.tuple #[])∧∃ cv',CM w0 w'' M KB SB OB UB cv' sv gv (l++piece (kd 96) k 0 0) ss gs∧∀ B a b c d,BoxS w' M cv gv B a b c d→BoxS w'' M cv' gv B a b c d):=fun B cv w' h1 h2=>cwriteB w0 w' M KB SB OB UB cv sv gv (l) ss gs B 2 [pC (k),oC (16)] h1 (by simp) (by simp) (by simp [pW,pC,oC]) (by simp [pW,pC,oC]) (by first | omega | (simp [pW,pC,oC];omega)) h2
 clear h
 go_enter Tryz.func113,Tryz.ntmps113
 go_wp2_with (go_at_call 144;refine (pceN (n:=5) (cpushWord (k) _ k0) rfl).mono ?_;rintro e w1 ⟨a1,b1,rfl,p1,g1⟩;have H1:=H0.keep g1;have B1:=B0.keep g1;have ⟨_,_,_,x0,x1,x2,x3⟩:=B1;go_wp2_with (go_at_call 146;refine (pceN (n:=2) (cpushCell (k) _ (by omega)) rfl).mono ?_;rintro e w2 ⟨a2,b2,rfl,p2,g2⟩;have H2:=H1.keep g2;have B2:=B1.keep g2;have ⟨_,_,_,x0,x1,x2,x3⟩:=B2;go_wp2_with (go_at_call 148;refine (pceN (n:=2) (cpopCell (16) _ (by omega)) rfl).mono ?_;rintro e w3 ⟨a3,b3,rfl,p3,g3⟩;have H3:=H2.keep g3;have B3:=B2.keep g3;have ⟨_,_,_,x0,x1,x2,x3⟩:=B3;go_wp2_with (go_at_call 147;refine (HW.out _ _ _ (H3.allo _) (pcs_new2 (p2.keep g3) p3)).mono ?_;rintro e wz ⟨rfl,cz,Hz,_⟩))))
 go_end0
 exact ⟨rfl,cz,Hz⟩
set_option maxHeartbeats 1000000 in
theorem cf_128 (w0 w:World) (M KB SB OB UB:Nat) (cv sv gv:Value) (l ss:List Int) (gs:List (Int × Int)) (jt jf k:Int) (h:CM w0 w M KB SB OB UB cv sv gv l ss gs) (hl:l.length≤80000) (uk:U32 k) :
  Calls Tryz.prog 113 #[.pointer (some ⟨M,0,none⟩),.agg #[.int .i64 128,.int .i64 jt,.int .i64 jf,.int .i64 k]] w fun e w'=>e=.returned (.tuple #[])∧∃ cv',CM w0 w' M KB SB OB UB cv' sv gv (l++piece (kd 128) k 0 0) ss gs:=by
 obtain ⟨c0,c1,c2,c3,c4,c5,c6⟩:=h.cells
 have lM:=h.m.lt
 obtain ⟨k0,k1⟩:=uk
 have H0:=h.allo (.cells #[.int .i64 128,.int .i64 jt,.int .i64 jf,.int .i64 k] 63)
 have B0:=box_new h (.int .i64 128) (.int .i64 jt) (.int .i64 jf) (.int .i64 k) 63
 have HW:Hid (∀ (B:Nat) (cv:Value) w',CM w0 w' M KB SB OB UB cv sv gv (l) ss gs→Pcs w' B [[6],oC (16)]→Calls Tryz.prog 147 #[.pointer (some ⟨M,0,none⟩),.slice (some ⟨B,0,none⟩) 2 2] w' fun e w''=>e=.returned (.tuple #[])∧∃ cv',CM w0 w'' M KB SB OB UB cv' sv gv (l++piece (kd 128) k 0 0) ss gs∧∀ B a b c d,BoxS w' M cv gv B a b c d→BoxS w'' M cv' gv B a b c d):=fun B cv w' h1 h2=>cwriteB w0 w' M KB SB OB UB cv sv gv (l) ss gs B 2 [[6],oC (16)] h1 (by simp) (by simp) (by simp [pW,pC,oC]) (by simp [pW,pC,oC]) (by first | omega | (simp [pW,pC,oC];omega)) h2
 clear h
 go_enter Tryz.func113,Tryz.ntmps113
 go_wp2_with (go_at_call 144;refine (pceN (n:=5) (cpushWord (k) _ k0) rfl).mono ?_;rintro e w1 ⟨a1,b1,rfl,p1,g1⟩;have H1:=H0.keep g1;have B1:=B0.keep g1;have ⟨_,_,_,x0,x1,x2,x3⟩:=B1;go_wp2_with (go_at_call 150;refine (pceN (n:=1) (cpushLength _) rfl).mono ?_;rintro e w2 ⟨a2,b2,rfl,p2,g2⟩;have H2:=H1.keep g2;have B2:=B1.keep g2;have ⟨_,_,_,x0,x1,x2,x3⟩:=B2;go_wp2_with (go_at_call 148;refine (pceN (n:=2) (cpopCell (16) _ (by omega)) rfl).mono ?_;rintro e w3 ⟨a3,b3,rfl,p3,g3⟩;have H3:=H2.keep g3;have B3:=B2.keep g3;have ⟨_,_,_,x0,x1,x2,x3⟩:=B3;go_wp2_with (go_at_call 147;refine (HW.out _ _ _ (H3.allo _) (pcs_new2 (p2.keep g3) p3)).mono ?_;rintro e wz ⟨rfl,cz,Hz,_⟩))))
 go_end0
 exact ⟨rfl,cz,Hz⟩
set_option maxHeartbeats 1000000 in
theorem cf_1 (w0 w:World) (M KB SB OB UB:Nat) (cv sv gv:Value) (l ss:List Int) (gs:List (Int × Int)) (jt jf k:Int) (h:CM w0 w M KB SB OB UB cv sv gv l ss gs) (hl:l.length≤80000) (uk:U32 k) :
  Calls Tryz.prog 113 #[.pointer (some ⟨M,0,none⟩),.agg #[.int .i64 1,.int .i64 jt,.int .i64 jf,.int .i64 k]] w fun e w'=>e=.returned (.tuple #[])∧∃ cv',CM w0 w' M KB SB OB UB cv' sv gv (l++piece (kd 1) k 0 0) ss gs:=by
 obtain ⟨c0,c1,c2,c3,c4,c5,c6⟩:=h.cells
 have lM:=h.m.lt
 obtain ⟨k0,k1⟩:=uk
 have H0:=h.allo (.cells #[.int .i64 1,.int .i64 jt,.int .i64 jf,.int .i64 k] 63)
 have B0:=box_new h (.int .i64 1) (.int .i64 jt) (.int .i64 jf) (.int .i64 k) 63
 have HW:Hid (∀ (B:Nat) (cv:Value) w',CM w0 w' M KB SB OB UB cv sv gv (l) ss gs→Pcs w' B [pW (k),oC (17)]→Calls Tryz.prog 147 #[.pointer (some ⟨M,0,none⟩),.slice (some ⟨B,0,none⟩) 2 2] w' fun e w''=>e=.returned (.tuple #[])∧∃ cv',CM w0 w'' M KB SB OB UB cv' sv gv (l++piece (kd 1) k 0 0) ss gs∧∀ B a b c d,BoxS w' M cv gv B a b c d→BoxS w'' M cv' gv B a b c d):=fun B cv w' h1 h2=>cwriteB w0 w' M KB SB OB UB cv sv gv (l) ss gs B 2 [pW (k),oC (17)] h1 (by simp) (by simp) (by simp [pW,pC,oC]) (by simp [pW,pC,oC]) (by first | omega | (simp [pW,pC,oC];omega)) h2
 clear h
 go_enter Tryz.func113,Tryz.ntmps113
 go_wp2_with (go_at_call 144;refine (pceN (n:=5) (cpushWord (k) _ k0) rfl).mono ?_;rintro e w1 ⟨a1,b1,rfl,p1,g1⟩;have H1:=H0.keep g1;have B1:=B0.keep g1;have ⟨_,_,_,x0,x1,x2,x3⟩:=B1;go_wp2_with (go_at_call 148;refine (pceN (n:=2) (cpopCell (17) _ (by omega)) rfl).mono ?_;rintro e w2 ⟨a2,b2,rfl,p2,g2⟩;have H2:=H1.keep g2;have B2:=B1.keep g2;have ⟨_,_,_,x0,x1,x2,x3⟩:=B2;go_wp2_with (go_at_call 147;refine (HW.out _ _ _ (H2.allo _) (pcs_new2 (p1.keep g2) p2)).mono ?_;rintro e wz ⟨rfl,cz,Hz,_⟩)))
 go_end0
 exact ⟨rfl,cz,Hz⟩
set_option maxHeartbeats 1000000 in
theorem cf_97 (w0 w:World) (M KB SB OB UB:Nat) (cv sv gv:Value) (l ss:List Int) (gs:List (Int × Int)) (jt jf k:Int) (h:CM w0 w M KB SB OB UB cv sv gv l ss gs) (hl:l.length≤80000) (uk:U32 k) (k16:k<16) :
  Calls Tryz.prog 113 #[.pointer (some ⟨M,0,none⟩),.agg #[.int .i64 97,.int .i64 jt,.int .i64 jf,.int .i64 k]] w fun e w'=>e=.returned (.tuple #[])∧∃ cv',CM w0 w' M KB SB OB UB cv' sv gv (l++piece (kd 97) k 0 0) ss gs:=by
 obtain ⟨c0,c1,c2,c3,c4,c5,c6⟩:=h.cells
 have lM:=h.m.lt
 obtain ⟨k0,k1⟩:=uk
 have H0:=h.allo (.cells #[.int .i64 97,.int .i64 jt,.int .i64 jf,.int .i64 k] 63)
 have B0:=box_new h (.int .i64 97) (.int .i64 jt) (.int .i64 jf) (.int .i64 k) 63
 have HW:Hid (∀ (B:Nat) (cv:Value) w',CM w0 w' M KB SB OB UB cv sv gv (l) ss gs→Pcs w' B [pC (k),oC (17)]→Calls Tryz.prog 147 #[.pointer (some ⟨M,0,none⟩),.slice (some ⟨B,0,none⟩) 2 2] w' fun e w''=>e=.returned (.tuple #[])∧∃ cv',CM w0 w'' M KB SB OB UB cv' sv gv (l++piece (kd 97) k 0 0) ss gs∧∀ B a b c d,BoxS w' M cv gv B a b c d→BoxS w'' M cv' gv B a b c d):=fun B cv w' h1 h2=>cwriteB w0 w' M KB SB OB UB cv sv gv (l) ss gs B 2 [pC (k),oC (17)] h1 (by simp) (by simp) (by simp [pW,pC,oC]) (by simp [pW,pC,oC]) (by first | omega | (simp [pW,pC,oC];omega)) h2
 clear h
 go_enter Tryz.func113,Tryz.ntmps113
 go_wp2_with (go_at_call 144;refine (pceN (n:=5) (cpushWord (k) _ k0) rfl).mono ?_;rintro e w1 ⟨a1,b1,rfl,p1,g1⟩;have H1:=H0.keep g1;have B1:=B0.keep g1;have ⟨_,_,_,x0,x1,x2,x3⟩:=B1;go_wp2_with (go_at_call 146;refine (pceN (n:=2) (cpushCell (k) _ (by omega)) rfl).mono ?_;rintro e w2 ⟨a2,b2,rfl,p2,g2⟩;have H2:=H1.keep g2;have B2:=B1.keep g2;have ⟨_,_,_,x0,x1,x2,x3⟩:=B2;go_wp2_with (go_at_call 148;refine (pceN (n:=2) (cpopCell (17) _ (by omega)) rfl).mono ?_;rintro e w3 ⟨a3,b3,rfl,p3,g3⟩;have H3:=H2.keep g3;have B3:=B2.keep g3;have ⟨_,_,_,x0,x1,x2,x3⟩:=B3;go_wp2_with (go_at_call 147;refine (HW.out _ _ _ (H3.allo _) (pcs_new2 (p2.keep g3) p3)).mono ?_;rintro e wz ⟨rfl,cz,Hz,_⟩))))
 go_end0
 exact ⟨rfl,cz,Hz⟩
set_option maxHeartbeats 1000000 in
theorem cf_129 (w0 w:World) (M KB SB OB UB:Nat) (cv sv gv:Value) (l ss:List Int) (gs:List (Int × Int)) (jt jf k:Int) (h:CM w0 w M KB SB OB UB cv sv gv l ss gs) (hl:l.length≤80000) (uk:U32 k) :
  Calls Tryz.prog 113 #[.pointer (some ⟨M,0,none⟩),.agg #[.int .i64 129,.int .i64 jt,.int .i64 jf,.int .i64 k]] w fun e w'=>e=.returned (.tuple #[])∧∃ cv',CM w0 w' M KB SB OB UB cv' sv gv (l++piece (kd 129) k 0 0) ss gs:=by
 obtain ⟨c0,c1,c2,c3,c4,c5,c6⟩:=h.cells
 have lM:=h.m.lt
 obtain ⟨k0,k1⟩:=uk
 have H0:=h.allo (.cells #[.int .i64 129,.int .i64 jt,.int .i64 jf,.int .i64 k] 63)
 have B0:=box_new h (.int .i64 129) (.int .i64 jt) (.int .i64 jf) (.int .i64 k) 63
 have HW:Hid (∀ (B:Nat) (cv:Value) w',CM w0 w' M KB SB OB UB cv sv gv (l) ss gs→Pcs w' B [[6],oC (17)]→Calls Tryz.prog 147 #[.pointer (some ⟨M,0,none⟩),.slice (some ⟨B,0,none⟩) 2 2] w' fun e w''=>e=.returned (.tuple #[])∧∃ cv',CM w0 w'' M KB SB OB UB cv' sv gv (l++piece (kd 129) k 0 0) ss gs∧∀ B a b c d,BoxS w' M cv gv B a b c d→BoxS w'' M cv' gv B a b c d):=fun B cv w' h1 h2=>cwriteB w0 w' M KB SB OB UB cv sv gv (l) ss gs B 2 [[6],oC (17)] h1 (by simp) (by simp) (by simp [pW,pC,oC]) (by simp [pW,pC,oC]) (by first | omega | (simp [pW,pC,oC];omega)) h2
 clear h
 go_enter Tryz.func113,Tryz.ntmps113
 go_wp2_with (go_at_call 144;refine (pceN (n:=5) (cpushWord (k) _ k0) rfl).mono ?_;rintro e w1 ⟨a1,b1,rfl,p1,g1⟩;have H1:=H0.keep g1;have B1:=B0.keep g1;have ⟨_,_,_,x0,x1,x2,x3⟩:=B1;go_wp2_with (go_at_call 150;refine (pceN (n:=1) (cpushLength _) rfl).mono ?_;rintro e w2 ⟨a2,b2,rfl,p2,g2⟩;have H2:=H1.keep g2;have B2:=B1.keep g2;have ⟨_,_,_,x0,x1,x2,x3⟩:=B2;go_wp2_with (go_at_call 148;refine (pceN (n:=2) (cpopCell (17) _ (by omega)) rfl).mono ?_;rintro e w3 ⟨a3,b3,rfl,p3,g3⟩;have H3:=H2.keep g3;have B3:=B2.keep g3;have ⟨_,_,_,x0,x1,x2,x3⟩:=B3;go_wp2_with (go_at_call 147;refine (HW.out _ _ _ (H3.allo _) (pcs_new2 (p2.keep g3) p3)).mono ?_;rintro e wz ⟨rfl,cz,Hz,_⟩))))
 go_end0
 exact ⟨rfl,cz,Hz⟩
set_option maxHeartbeats 1000000 in
theorem cf_2 (w0 w:World) (M KB SB OB UB:Nat) (cv sv gv:Value) (l ss:List Int) (gs:List (Int × Int)) (jt jf k:Int) (h:CM w0 w M KB SB OB UB cv sv gv l ss gs) (hl:l.length≤80000) (uk:U32 k) (k16:k<16) :
  Calls Tryz.prog 114 #[.pointer (some ⟨M,0,none⟩),.agg #[.int .i64 2,.int .i64 jt,.int .i64 jf,.int .i64 k]] w fun e w'=>e=.returned (.tuple #[])∧∃ cv',CM w0 w' M KB SB OB UB cv' sv gv (l++piece (kd 2) k 0 0) ss gs:=by
 obtain ⟨c0,c1,c2,c3,c4,c5,c6⟩:=h.cells
 have lM:=h.m.lt
 obtain ⟨k0,k1⟩:=uk
 have H0:=h.allo (.cells #[.int .i64 2,.int .i64 jt,.int .i64 jf,.int .i64 k] 63)
 have B0:=box_new h (.int .i64 2) (.int .i64 jt) (.int .i64 jf) (.int .i64 k) 63
 have HS:(w.alloc (.cells #[.int .i64 2,.int .i64 jt,.int .i64 jf,.int .i64 k] 63)).drew.cell? ⟨w.heap.size,3,none⟩=some (.int .i64 k):=(B0.keep (grown_drew (grown_refl _ _))).2.2.2.2.2.2
 have HW:Hid (∀ (B:Nat) (cv:Value) w',CM w0 w' M KB SB OB UB cv sv gv (l) ss gs→Pcs w' B [pC (16),oC (k)]→Calls Tryz.prog 147 #[.pointer (some ⟨M,0,none⟩),.slice (some ⟨B,0,none⟩) 2 2] w' fun e w''=>e=.returned (.tuple #[])∧∃ cv',CM w0 w'' M KB SB OB UB cv' sv gv (l++piece (kd 2) k 0 0) ss gs∧∀ B a b c d,BoxS w' M cv gv B a b c d→BoxS w'' M cv' gv B a b c d):=fun B cv w' h1 h2=>cwriteB w0 w' M KB SB OB UB cv sv gv (l) ss gs B 2 [pC (16),oC (k)] h1 (by simp) (by simp) (by simp [pW,pC,oC]) (by simp [pW,pC,oC]) (by first | omega | (simp [pW,pC,oC];omega)) h2
 clear h
 go_enter Tryz.func114,Tryz.ntmps114
 go_wp2
 go_region_held3 (fun w'=>w'.cell? ⟨w.heap.size,3,none⟩=some (.int .i64 k))
  (first | exact HS | assumption | exact (B2.keep (World.grownBy_alloc _ _ none)).2.2.2.2.2.2)
  ((first | (go_at_call 146;refine (pceN (n:=2) (cpushCell (16) _ (by omega)) rfl).mono ?_;rintro e w1 ⟨a1,b1,rfl,p1,g1⟩;have H1:=H0.drew.keep g1;have B1:=(B0.keep (grown_drew (grown_refl _ _))).keep g1;have ⟨_,_,_,x0,x1,x2,x3⟩:=B1;have S1:w1.cell? ⟨w.heap.size,3,none⟩=some (.int .i64 k):=B1.2.2.2.2.2.2) | (go_at_call 148;refine (pceN (n:=2) (cpopCell (k) _ (by omega)) rfl).mono ?_;rintro e w2 ⟨a2,b2,rfl,p2,g2⟩;have H2:=H1.keep g2;have B2:=B1.keep g2;have ⟨_,_,_,x0,x1,x2,x3⟩:=B2;have S2:w2.cell? ⟨w.heap.size,3,none⟩=some (.int .i64 k):=B2.2.2.2.2.2.2) | (go_at_call 147;refine (HW.out _ _ _ (H2.allo _) (pcs_new2 (p1.keep g2) p2)).mono ?_;rintro e wz ⟨rfl,cz,Hz,BB⟩;have Sz:wz.cell? ⟨w.heap.size,3,none⟩=some (.int .i64 k):=(BB _ _ _ _ _ (B2.keep (World.grownBy_alloc _ _ none))).2.2.2.2.2.2)))
 all_goals go_wp2
 all_goals go_end0
 all_goals exact ⟨rfl,cz,Hz⟩
set_option maxHeartbeats 1000000 in
theorem cf_3 (w0 w:World) (M KB SB OB UB:Nat) (cv sv gv:Value) (l ss:List Int) (gs:List (Int × Int)) (jt jf k:Int) (h:CM w0 w M KB SB OB UB cv sv gv l ss gs) (hl:l.length≤80000) (uk:U32 k) (k16:k<16) :
  Calls Tryz.prog 114 #[.pointer (some ⟨M,0,none⟩),.agg #[.int .i64 3,.int .i64 jt,.int .i64 jf,.int .i64 k]] w fun e w'=>e=.returned (.tuple #[])∧∃ cv',CM w0 w' M KB SB OB UB cv' sv gv (l++piece (kd 3) k 0 0) ss gs:=by
 obtain ⟨c0,c1,c2,c3,c4,c5,c6⟩:=h.cells
 have lM:=h.m.lt
 obtain ⟨k0,k1⟩:=uk
 have H0:=h.allo (.cells #[.int .i64 3,.int .i64 jt,.int .i64 jf,.int .i64 k] 63)
 have B0:=box_new h (.int .i64 3) (.int .i64 jt) (.int .i64 jf) (.int .i64 k) 63
 have HS:(w.alloc (.cells #[.int .i64 3,.int .i64 jt,.int .i64 jf,.int .i64 k] 63)).drew.cell? ⟨w.heap.size,3,none⟩=some (.int .i64 k):=(B0.keep (grown_drew (grown_refl _ _))).2.2.2.2.2.2
 have HW:Hid (∀ (B:Nat) (cv:Value) w',CM w0 w' M KB SB OB UB cv sv gv (l) ss gs→Pcs w' B [pC (17),oC (k)]→Calls Tryz.prog 147 #[.pointer (some ⟨M,0,none⟩),.slice (some ⟨B,0,none⟩) 2 2] w' fun e w''=>e=.returned (.tuple #[])∧∃ cv',CM w0 w'' M KB SB OB UB cv' sv gv (l++piece (kd 3) k 0 0) ss gs∧∀ B a b c d,BoxS w' M cv gv B a b c d→BoxS w'' M cv' gv B a b c d):=fun B cv w' h1 h2=>cwriteB w0 w' M KB SB OB UB cv sv gv (l) ss gs B 2 [pC (17),oC (k)] h1 (by simp) (by simp) (by simp [pW,pC,oC]) (by simp [pW,pC,oC]) (by first | omega | (simp [pW,pC,oC];omega)) h2
 clear h
 go_enter Tryz.func114,Tryz.ntmps114
 go_wp2
 go_region_held3 (fun w'=>w'.cell? ⟨w.heap.size,3,none⟩=some (.int .i64 k))
  (first | exact HS | assumption | exact (B2.keep (World.grownBy_alloc _ _ none)).2.2.2.2.2.2)
  ((first | (go_at_call 146;refine (pceN (n:=2) (cpushCell (17) _ (by omega)) rfl).mono ?_;rintro e w1 ⟨a1,b1,rfl,p1,g1⟩;have H1:=H0.drew.keep g1;have B1:=(B0.keep (grown_drew (grown_refl _ _))).keep g1;have ⟨_,_,_,x0,x1,x2,x3⟩:=B1;have S1:w1.cell? ⟨w.heap.size,3,none⟩=some (.int .i64 k):=B1.2.2.2.2.2.2) | (go_at_call 148;refine (pceN (n:=2) (cpopCell (k) _ (by omega)) rfl).mono ?_;rintro e w2 ⟨a2,b2,rfl,p2,g2⟩;have H2:=H1.keep g2;have B2:=B1.keep g2;have ⟨_,_,_,x0,x1,x2,x3⟩:=B2;have S2:w2.cell? ⟨w.heap.size,3,none⟩=some (.int .i64 k):=B2.2.2.2.2.2.2) | (go_at_call 147;refine (HW.out _ _ _ (H2.allo _) (pcs_new2 (p1.keep g2) p2)).mono ?_;rintro e wz ⟨rfl,cz,Hz,BB⟩;have Sz:wz.cell? ⟨w.heap.size,3,none⟩=some (.int .i64 k):=(BB _ _ _ _ _ (B2.keep (World.grownBy_alloc _ _ none))).2.2.2.2.2.2)))
 all_goals go_wp2
 all_goals go_end0
 all_goals exact ⟨rfl,cz,Hz⟩
set_option maxHeartbeats 1000000 in
theorem cf_7 (w0 w:World) (M KB SB OB UB:Nat) (cv sv gv:Value) (l ss:List Int) (gs:List (Int × Int)) (jt jf k:Int) (h:CM w0 w M KB SB OB UB cv sv gv l ss gs) (hl:l.length≤80000) (uk:U32 k) :
  Calls Tryz.prog 114 #[.pointer (some ⟨M,0,none⟩),.agg #[.int .i64 7,.int .i64 jt,.int .i64 jf,.int .i64 k]] w fun e w'=>e=.returned (.tuple #[])∧∃ cv',CM w0 w' M KB SB OB UB cv' sv gv (l++piece (kd 7) k 0 0) ss gs:=by
 obtain ⟨c0,c1,c2,c3,c4,c5,c6⟩:=h.cells
 have lM:=h.m.lt
 obtain ⟨k0,k1⟩:=uk
 have H0:=h.allo (.cells #[.int .i64 7,.int .i64 jt,.int .i64 jf,.int .i64 k] 63)
 have B0:=box_new h (.int .i64 7) (.int .i64 jt) (.int .i64 jf) (.int .i64 k) 63
 have HW:Hid (∀ (B:Nat) (cv:Value) w',CM w0 w' M KB SB OB UB cv sv gv (l) ss gs→Pcs w' B [pC (16),oC (17)]→Calls Tryz.prog 147 #[.pointer (some ⟨M,0,none⟩),.slice (some ⟨B,0,none⟩) 2 2] w' fun e w''=>e=.returned (.tuple #[])∧∃ cv',CM w0 w'' M KB SB OB UB cv' sv gv (l++piece (kd 7) k 0 0) ss gs∧∀ B a b c d,BoxS w' M cv gv B a b c d→BoxS w'' M cv' gv B a b c d):=fun B cv w' h1 h2=>cwriteB w0 w' M KB SB OB UB cv sv gv (l) ss gs B 2 [pC (16),oC (17)] h1 (by simp) (by simp) (by simp [pW,pC,oC]) (by simp [pW,pC,oC]) (by first | omega | (simp [pW,pC,oC];omega)) h2
 clear h
 go_enter Tryz.func114,Tryz.ntmps114
 go_wp2_with (go_at_call 146;refine (pceN (n:=2) (cpushCell (16) _ (by omega)) rfl).mono ?_;rintro e w1 ⟨a1,b1,rfl,p1,g1⟩;have H1:=H0.keep g1;have B1:=B0.keep g1;have ⟨_,_,_,x0,x1,x2,x3⟩:=B1;go_wp2_with (go_at_call 148;refine (pceN (n:=2) (cpopCell (17) _ (by omega)) rfl).mono ?_;rintro e w2 ⟨a2,b2,rfl,p2,g2⟩;have H2:=H1.keep g2;have B2:=B1.keep g2;have ⟨_,_,_,x0,x1,x2,x3⟩:=B2;go_wp2_with (go_at_call 147;refine (HW.out _ _ _ (H2.allo _) (pcs_new2 (p1.keep g2) p2)).mono ?_;rintro e wz ⟨rfl,cz,Hz,_⟩)))
 go_end0
 exact ⟨rfl,cz,Hz⟩
set_option maxHeartbeats 1000000 in
theorem cf_135 (w0 w:World) (M KB SB OB UB:Nat) (cv sv gv:Value) (l ss:List Int) (gs:List (Int × Int)) (jt jf k:Int) (h:CM w0 w M KB SB OB UB cv sv gv l ss gs) (hl:l.length≤80000) (uk:U32 k) :
  Calls Tryz.prog 114 #[.pointer (some ⟨M,0,none⟩),.agg #[.int .i64 135,.int .i64 jt,.int .i64 jf,.int .i64 k]] w fun e w'=>e=.returned (.tuple #[])∧∃ cv',CM w0 w' M KB SB OB UB cv' sv gv (l++piece (kd 135) k 0 0) ss gs:=by
 obtain ⟨c0,c1,c2,c3,c4,c5,c6⟩:=h.cells
 have lM:=h.m.lt
 obtain ⟨k0,k1⟩:=uk
 have H0:=h.allo (.cells #[.int .i64 135,.int .i64 jt,.int .i64 jf,.int .i64 k] 63)
 have B0:=box_new h (.int .i64 135) (.int .i64 jt) (.int .i64 jf) (.int .i64 k) 63
 have HW:Hid (∀ (B:Nat) (cv:Value) w',CM w0 w' M KB SB OB UB cv sv gv (l) ss gs→Pcs w' B [pC (17),oC (16)]→Calls Tryz.prog 147 #[.pointer (some ⟨M,0,none⟩),.slice (some ⟨B,0,none⟩) 2 2] w' fun e w''=>e=.returned (.tuple #[])∧∃ cv',CM w0 w'' M KB SB OB UB cv' sv gv (l++piece (kd 135) k 0 0) ss gs∧∀ B a b c d,BoxS w' M cv gv B a b c d→BoxS w'' M cv' gv B a b c d):=fun B cv w' h1 h2=>cwriteB w0 w' M KB SB OB UB cv sv gv (l) ss gs B 2 [pC (17),oC (16)] h1 (by simp) (by simp) (by simp [pW,pC,oC]) (by simp [pW,pC,oC]) (by first | omega | (simp [pW,pC,oC];omega)) h2
 clear h
 go_enter Tryz.func114,Tryz.ntmps114
 go_wp2_with (go_at_call 146;refine (pceN (n:=2) (cpushCell (17) _ (by omega)) rfl).mono ?_;rintro e w1 ⟨a1,b1,rfl,p1,g1⟩;have H1:=H0.keep g1;have B1:=B0.keep g1;have ⟨_,_,_,x0,x1,x2,x3⟩:=B1;go_wp2_with (go_at_call 148;refine (pceN (n:=2) (cpopCell (16) _ (by omega)) rfl).mono ?_;rintro e w2 ⟨a2,b2,rfl,p2,g2⟩;have H2:=H1.keep g2;have B2:=B1.keep g2;have ⟨_,_,_,x0,x1,x2,x3⟩:=B2;go_wp2_with (go_at_call 147;refine (HW.out _ _ _ (H2.allo _) (pcs_new2 (p1.keep g2) p2)).mono ?_;rintro e wz ⟨rfl,cz,Hz,_⟩)))
 go_end0
 exact ⟨rfl,cz,Hz⟩
set_option maxHeartbeats 1000000 in
theorem cf_6 (w0 w:World) (M KB SB OB UB:Nat) (cv sv gv:Value) (l ss:List Int) (gs:List (Int × Int)) (jt jf k:Int) (h:CM w0 w M KB SB OB UB cv sv gv l ss gs) (hl:l.length≤80000) (uk:U32 k) :
  Calls Tryz.prog 117 #[.pointer (some ⟨M,0,none⟩),.agg #[.int .i64 6,.int .i64 jt,.int .i64 jf,.int .i64 k]] w fun e w'=>e=.returned (.tuple #[])∧∃ cv',CM w0 w' M KB SB OB UB cv' sv gv (l++piece (kd 6) k 0 0) ss gs:=by
 obtain ⟨c0,c1,c2,c3,c4,c5,c6⟩:=h.cells
 have lM:=h.m.lt
 obtain ⟨k0,k1⟩:=uk
 have H0:=h.allo (.cells #[.int .i64 6,.int .i64 jt,.int .i64 jf,.int .i64 k] 63)
 have B0:=box_new h (.int .i64 6) (.int .i64 jt) (.int .i64 jf) (.int .i64 k) 63
 have HW:Hid (∀ (B:Nat) (cv:Value) w',CM w0 w' M KB SB OB UB cv sv gv (l) ss gs→Pcs w' B [pW (k),[9]]→Calls Tryz.prog 147 #[.pointer (some ⟨M,0,none⟩),.slice (some ⟨B,0,none⟩) 2 2] w' fun e w''=>e=.returned (.tuple #[])∧∃ cv',CM w0 w'' M KB SB OB UB cv' sv gv (l++piece (kd 6) k 0 0) ss gs∧∀ B a b c d,BoxS w' M cv gv B a b c d→BoxS w'' M cv' gv B a b c d):=fun B cv w' h1 h2=>cwriteB w0 w' M KB SB OB UB cv sv gv (l) ss gs B 2 [pW (k),[9]] h1 (by simp) (by simp) (by simp [pW,pC,oC]) (by simp [pW,pC,oC]) (by first | omega | (simp [pW,pC,oC];omega)) h2
 clear h
 go_enter Tryz.func117,Tryz.ntmps117
 go_wp2_with (go_at_call 144;refine (pceN (n:=5) (cpushWord (k) _ k0) rfl).mono ?_;rintro e w1 ⟨a1,b1,rfl,p1,g1⟩;have H1:=H0.keep g1;have B1:=B0.keep g1;have ⟨_,_,_,x0,x1,x2,x3⟩:=B1;go_wp2_with (go_at_call 154;refine (pceN (n:=1) (cstop _) rfl).mono ?_;rintro e w2 ⟨a2,b2,rfl,p2,g2⟩;have H2:=H1.keep g2;have B2:=B1.keep g2;have ⟨_,_,_,x0,x1,x2,x3⟩:=B2;go_wp2_with (go_at_call 147;refine (HW.out _ _ _ (H2.allo _) (pcs_new2 (p1.keep g2) p2)).mono ?_;rintro e wz ⟨rfl,cz,Hz,_⟩)))
 go_end0
 exact ⟨rfl,cz,Hz⟩
set_option maxHeartbeats 1000000 in
theorem cf_22 (w0 w:World) (M KB SB OB UB:Nat) (cv sv gv:Value) (l ss:List Int) (gs:List (Int × Int)) (jt jf k:Int) (h:CM w0 w M KB SB OB UB cv sv gv l ss gs) (hl:l.length≤80000) (uk:U32 k) :
  Calls Tryz.prog 117 #[.pointer (some ⟨M,0,none⟩),.agg #[.int .i64 22,.int .i64 jt,.int .i64 jf,.int .i64 k]] w fun e w'=>e=.returned (.tuple #[])∧∃ cv',CM w0 w' M KB SB OB UB cv' sv gv (l++piece (kd 22) k 0 0) ss gs:=by
 obtain ⟨c0,c1,c2,c3,c4,c5,c6⟩:=h.cells
 have lM:=h.m.lt
 obtain ⟨k0,k1⟩:=uk
 have H0:=h.allo (.cells #[.int .i64 22,.int .i64 jt,.int .i64 jf,.int .i64 k] 63)
 have B0:=box_new h (.int .i64 22) (.int .i64 jt) (.int .i64 jf) (.int .i64 k) 63
 have HW:Hid (∀ (B:Nat) (cv:Value) w',CM w0 w' M KB SB OB UB cv sv gv (l) ss gs→Pcs w' B [pC (16),[9]]→Calls Tryz.prog 147 #[.pointer (some ⟨M,0,none⟩),.slice (some ⟨B,0,none⟩) 2 2] w' fun e w''=>e=.returned (.tuple #[])∧∃ cv',CM w0 w'' M KB SB OB UB cv' sv gv (l++piece (kd 22) k 0 0) ss gs∧∀ B a b c d,BoxS w' M cv gv B a b c d→BoxS w'' M cv' gv B a b c d):=fun B cv w' h1 h2=>cwriteB w0 w' M KB SB OB UB cv sv gv (l) ss gs B 2 [pC (16),[9]] h1 (by simp) (by simp) (by simp [pW,pC,oC]) (by simp [pW,pC,oC]) (by first | omega | (simp [pW,pC,oC];omega)) h2
 clear h
 go_enter Tryz.func117,Tryz.ntmps117
 go_wp2_with (go_at_call 144;refine (pceN (n:=5) (cpushWord (k) _ k0) rfl).mono ?_;rintro e w1 ⟨a1,b1,rfl,p1,g1⟩;have H1:=H0.keep g1;have B1:=B0.keep g1;have ⟨_,_,_,x0,x1,x2,x3⟩:=B1;go_wp2_with (go_at_call 146;refine (pceN (n:=2) (cpushCell (16) _ (by omega)) rfl).mono ?_;rintro e w2 ⟨a2,b2,rfl,p2,g2⟩;have H2:=H1.keep g2;have B2:=B1.keep g2;have ⟨_,_,_,x0,x1,x2,x3⟩:=B2;go_wp2_with (go_at_call 154;refine (pceN (n:=1) (cstop _) rfl).mono ?_;rintro e w3 ⟨a3,b3,rfl,p3,g3⟩;have H3:=H2.keep g3;have B3:=B2.keep g3;have ⟨_,_,_,x0,x1,x2,x3⟩:=B3;go_wp2_with (go_at_call 147;refine (HW.out _ _ _ (H3.allo _) (pcs_new2 (p2.keep g3) p3)).mono ?_;rintro e wz ⟨rfl,cz,Hz,_⟩))))
 go_end0
 exact ⟨rfl,cz,Hz⟩
set_option maxHeartbeats 1000000 in
theorem cf_132 (w0 w:World) (M KB SB OB UB:Nat) (cv sv gv:Value) (l ss:List Int) (gs:List (Int × Int)) (jt jf k:Int) (h:CM w0 w M KB SB OB UB cv sv gv l ss gs) (hl:l.length≤80000) (uk:U32 k) :
  Calls Tryz.prog 115 #[.pointer (some ⟨M,0,none⟩),.agg #[.int .i64 132,.int .i64 jt,.int .i64 jf,.int .i64 k]] w fun e w'=>e=.returned (.tuple #[])∧∃ cv',CM w0 w' M KB SB OB UB cv' sv gv (l++piece (kd 132) k 0 0) ss gs:=by
 obtain ⟨c0,c1,c2,c3,c4,c5,c6⟩:=h.cells
 have lM:=h.m.lt
 obtain ⟨k0,k1⟩:=uk
 have H0:=h.allo (.cells #[.int .i64 132,.int .i64 jt,.int .i64 jf,.int .i64 k] 63)
 have B0:=box_new h (.int .i64 132) (.int .i64 jt) (.int .i64 jf) (.int .i64 k) 63
 have HW:Hid (∀ (B:Nat) (cv:Value) w',CM w0 w' M KB SB OB UB cv sv gv (l) ss gs→Pcs w' B [pW (0),pC (16),[4,1],oC (16)]→Calls Tryz.prog 147 #[.pointer (some ⟨M,0,none⟩),.slice (some ⟨B,0,none⟩) 4 4] w' fun e w''=>e=.returned (.tuple #[])∧∃ cv',CM w0 w'' M KB SB OB UB cv' sv gv (l++piece (kd 132) k 0 0) ss gs∧∀ B a b c d,BoxS w' M cv gv B a b c d→BoxS w'' M cv' gv B a b c d):=fun B cv w' h1 h2=>cwriteB w0 w' M KB SB OB UB cv sv gv (l) ss gs B 4 [pW (0),pC (16),[4,1],oC (16)] h1 (by simp) (by simp) (by simp [pW,pC,oC]) (by simp [pW,pC,oC]) (by first | omega | (simp [pW,pC,oC];omega)) h2
 clear h
 go_enter Tryz.func115,Tryz.ntmps115
 go_wp2_with (go_at_call 144;refine (pceN (n:=5) (cpushWord (k) _ k0) rfl).mono ?_;rintro e w1 ⟨a1,b1,rfl,p1,g1⟩;have H1:=H0.keep g1;have B1:=B0.keep g1;have ⟨_,_,_,x0,x1,x2,x3⟩:=B1;go_wp2_with (go_at_call 144;refine (pceN (n:=5) (cpushWord (0) _ (by omega)) rfl).mono ?_;rintro e w2 ⟨a2,b2,rfl,p2,g2⟩;have H2:=H1.keep g2;have B2:=B1.keep g2;have ⟨_,_,_,x0,x1,x2,x3⟩:=B2;go_wp2_with (go_at_call 146;refine (pceN (n:=2) (cpushCell (16) _ (by omega)) rfl).mono ?_;rintro e w3 ⟨a3,b3,rfl,p3,g3⟩;have H3:=H2.keep g3;have B3:=B2.keep g3;have ⟨_,_,_,x0,x1,x2,x3⟩:=B3;go_wp2_with (go_at_call 149;refine (pceN (n:=2) (creckon 1 _ (by omega)) rfl).mono ?_;rintro e w4 ⟨a4,b4,rfl,p4,g4⟩;have H4:=H3.keep g4;have B4:=B3.keep g4;have ⟨_,_,_,x0,x1,x2,x3⟩:=B4;go_wp2_with (go_at_call 148;refine (pceN (n:=2) (cpopCell (16) _ (by omega)) rfl).mono ?_;rintro e w5 ⟨a5,b5,rfl,p5,g5⟩;have H5:=H4.keep g5;have B5:=B4.keep g5;have ⟨_,_,_,x0,x1,x2,x3⟩:=B5;go_wp2_with (go_at_call 147;refine (HW.out _ _ _ (H5.allo _) (pcs_new4 (((p2.keep g3).keep g4).keep g5) ((p3.keep g4).keep g5) (p4.keep g5) p5)).mono ?_;rintro e wz ⟨rfl,cz,Hz,_⟩))))))
 go_end0
 exact ⟨rfl,cz,Hz⟩
end Go.Proofs.YthbcfepbkkbjiaaGreatDoor
namespace Go.Proofs.YthbcfepbkkbjiaaGreatDoor
open Go.RowKit
set_option maxHeartbeats 1000000 in
theorem cf_32 (w0 w:World) (M KB SB OB UB:Nat) (cv sv gv:Value) (l ss:List Int) (gs:List (Int × Int)) (jt jf k:Int) (h:CM w0 w M KB SB OB UB cv sv gv l ss gs) (hl:l.length≤80000) (uk:U32 k) :
  Calls Tryz.prog 112 #[.pointer (some ⟨M,0,none⟩),.agg #[.int .i64 32,.int .i64 jt,.int .i64 jf,.int .i64 k]] w fun e w'=>e=.returned (.tuple #[])∧∃ cv',CM w0 w' M KB SB OB UB cv' sv gv (l++piece (kd 32) k 0 0) ss gs:=by
 obtain ⟨c0,c1,c2,c3,c4,c5,c6⟩:=h.cells
 have lM:=h.m.lt
 obtain ⟨k0,k1⟩:=uk
 have H0:=h.allo (.cells #[.int .i64 32,.int .i64 jt,.int .i64 jf,.int .i64 k] 63)
 have B0:=box_new h (.int .i64 32) (.int .i64 jt) (.int .i64 jf) (.int .i64 k) 63
 have HS:(w.alloc (.cells #[.int .i64 32,.int .i64 jt,.int .i64 jf,.int .i64 k] 63)).drew.cell? ⟨M,4,none⟩=some (.map (some SB))∧(w.alloc (.cells #[.int .i64 32,.int .i64 jt,.int .i64 jf,.int .i64 k] 63)).drew.cell? ⟨w.heap.size,0,none⟩=some (.int .i64 32)∧(Instr.lookup 125 (.map (some SB)) (.int .i64 32) false).run Tryz.prog (w.alloc (.cells #[.int .i64 32,.int .i64 jt,.int .i64 jf,.int .i64 k] 63)).drew=.ok (.int .i64 4) (w.alloc (.cells #[.int .i64 32,.int .i64 jt,.int .i64 jf,.int .i64 k] 63)).drew:=⟨H0.drew.cells.2.2.2.2.1,(B0.keep (grown_drew (grown_refl _ _))).2.2.2.1,clook_sz H0.drew.iz rfl⟩
 have HW:Hid (∀ (B:Nat) (cv:Value) w',CM w0 w' M KB SB OB UB cv sv gv (l) ss gs→Pcs w' B [pW 0,pW (k),[5,4],oC (16)]→Calls Tryz.prog 147 #[.pointer (some ⟨M,0,none⟩),.slice (some ⟨B,0,none⟩) 4 4] w' fun e w''=>e=.returned (.tuple #[])∧∃ cv',CM w0 w'' M KB SB OB UB cv' sv gv (l++piece (kd 32) k 0 0) ss gs∧∀ B a b c d,BoxS w' M cv gv B a b c d→BoxS w'' M cv' gv B a b c d):=fun B cv w' h1 h2=>cwriteB w0 w' M KB SB OB UB cv sv gv (l) ss gs B 4 [pW 0,pW (k),[5,4],oC (16)] h1 (by simp) (by simp) (by simp [pW,pC,oC]) (by simp [pW,pC,oC]) (by first | omega | (simp [pW,pC,oC];omega)) h2
 clear h
 go_enter Tryz.func112,Tryz.ntmps112
 go_wp2
 go_region_held3 (fun w'=>w'.cell? ⟨M,4,none⟩=some (.map (some SB))∧w'.cell? ⟨w.heap.size,0,none⟩=some (.int .i64 32)∧(Instr.lookup 125 (.map (some SB)) (.int .i64 32) false).run Tryz.prog w'=.ok (.int .i64 4) w')
  (first | exact HS | assumption)
  ((first | (go_at_call 144;refine (pceN (n:=5) (cpushWord (0) _ (by omega)) rfl).mono ?_;rintro e w1 ⟨a1,b1,rfl,p1,g1⟩;have H1:=H0.drew.keep g1;have B1:=(B0.keep (grown_drew (grown_refl _ _))).keep g1;have ⟨_,_,_,x0,x1,x2,x3⟩:=B1;have S1:w1.cell? ⟨M,4,none⟩=some (.map (some SB))∧w1.cell? ⟨w.heap.size,0,none⟩=some (.int .i64 32)∧(Instr.lookup 125 (.map (some SB)) (.int .i64 32) false).run Tryz.prog w1=.ok (.int .i64 4) w1:=⟨H1.cells.2.2.2.2.1,B1.2.2.2.1,clook_sz H1.iz rfl⟩) | (go_at_call 145;refine (pceN (n:=2) (cload 4 _ (by omega)) rfl).mono ?_;rintro e w2 ⟨a2,b2,rfl,p2,g2⟩;have H2:=H1.keep g2;have B2:=B1.keep g2;have ⟨_,_,_,x0,x1,x2,x3⟩:=B2;have S2:w2.cell? ⟨M,4,none⟩=some (.map (some SB))∧w2.cell? ⟨w.heap.size,0,none⟩=some (.int .i64 32)∧(Instr.lookup 125 (.map (some SB)) (.int .i64 32) false).run Tryz.prog w2=.ok (.int .i64 4) w2:=⟨H2.cells.2.2.2.2.1,B2.2.2.2.1,clook_sz H2.iz rfl⟩)))
 all_goals
  clear S1 S2 HS
  go_wp2_with (go_at_call 144;refine (pceN (n:=5) (cpushWord (k) _ k0) rfl).mono ?_;rintro e w3 ⟨a3,b3,rfl,p3,g3⟩;have H3:=H2.keep g3;have B3:=B2.keep g3;have ⟨_,_,_,x0,x1,x2,x3⟩:=B3;go_wp2_with (go_at_call 148;refine (pceN (n:=2) (cpopCell (16) _ (by omega)) rfl).mono ?_;rintro e w4 ⟨a4,b4,rfl,p4,g4⟩;have H4:=H3.keep g4;have B4:=B3.keep g4;have ⟨_,_,_,x0,x1,x2,x3⟩:=B4;go_wp2_with (go_at_call 147;refine (HW.out _ _ _ (H4.allo _) (pcs_new4 (((p1.keep g2).keep g3).keep g4) (p3.keep g4) ((p2.keep g3).keep g4) p4)).mono ?_;rintro e wz ⟨rfl,cz,Hz,_⟩)))
  go_end0
  exact ⟨rfl,cz,Hz⟩
set_option maxHeartbeats 1000000 in
theorem cf_40 (w0 w:World) (M KB SB OB UB:Nat) (cv sv gv:Value) (l ss:List Int) (gs:List (Int × Int)) (jt jf k:Int) (h:CM w0 w M KB SB OB UB cv sv gv l ss gs) (hl:l.length≤80000) (uk:U32 k) :
  Calls Tryz.prog 112 #[.pointer (some ⟨M,0,none⟩),.agg #[.int .i64 40,.int .i64 jt,.int .i64 jf,.int .i64 k]] w fun e w'=>e=.returned (.tuple #[])∧∃ cv',CM w0 w' M KB SB OB UB cv' sv gv (l++piece (kd 40) k 0 0) ss gs:=by
 obtain ⟨c0,c1,c2,c3,c4,c5,c6⟩:=h.cells
 have lM:=h.m.lt
 obtain ⟨k0,k1⟩:=uk
 have H0:=h.allo (.cells #[.int .i64 40,.int .i64 jt,.int .i64 jf,.int .i64 k] 63)
 have B0:=box_new h (.int .i64 40) (.int .i64 jt) (.int .i64 jf) (.int .i64 k) 63
 have HS:(w.alloc (.cells #[.int .i64 40,.int .i64 jt,.int .i64 jf,.int .i64 k] 63)).drew.cell? ⟨M,4,none⟩=some (.map (some SB))∧(w.alloc (.cells #[.int .i64 40,.int .i64 jt,.int .i64 jf,.int .i64 k] 63)).drew.cell? ⟨w.heap.size,0,none⟩=some (.int .i64 40)∧(Instr.lookup 125 (.map (some SB)) (.int .i64 40) false).run Tryz.prog (w.alloc (.cells #[.int .i64 40,.int .i64 jt,.int .i64 jf,.int .i64 k] 63)).drew=.ok (.int .i64 2) (w.alloc (.cells #[.int .i64 40,.int .i64 jt,.int .i64 jf,.int .i64 k] 63)).drew:=⟨H0.drew.cells.2.2.2.2.1,(B0.keep (grown_drew (grown_refl _ _))).2.2.2.1,clook_sz H0.drew.iz rfl⟩
 have HW:Hid (∀ (B:Nat) (cv:Value) w',CM w0 w' M KB SB OB UB cv sv gv (l) ss gs→Pcs w' B [pW 0,pW (k),[5,2],oC (16)]→Calls Tryz.prog 147 #[.pointer (some ⟨M,0,none⟩),.slice (some ⟨B,0,none⟩) 4 4] w' fun e w''=>e=.returned (.tuple #[])∧∃ cv',CM w0 w'' M KB SB OB UB cv' sv gv (l++piece (kd 40) k 0 0) ss gs∧∀ B a b c d,BoxS w' M cv gv B a b c d→BoxS w'' M cv' gv B a b c d):=fun B cv w' h1 h2=>cwriteB w0 w' M KB SB OB UB cv sv gv (l) ss gs B 4 [pW 0,pW (k),[5,2],oC (16)] h1 (by simp) (by simp) (by simp [pW,pC,oC]) (by simp [pW,pC,oC]) (by first | omega | (simp [pW,pC,oC];omega)) h2
 clear h
 go_enter Tryz.func112,Tryz.ntmps112
 go_wp2
 go_region_held3 (fun w'=>w'.cell? ⟨M,4,none⟩=some (.map (some SB))∧w'.cell? ⟨w.heap.size,0,none⟩=some (.int .i64 40)∧(Instr.lookup 125 (.map (some SB)) (.int .i64 40) false).run Tryz.prog w'=.ok (.int .i64 2) w')
  (first | exact HS | assumption)
  ((first | (go_at_call 144;refine (pceN (n:=5) (cpushWord (0) _ (by omega)) rfl).mono ?_;rintro e w1 ⟨a1,b1,rfl,p1,g1⟩;have H1:=H0.drew.keep g1;have B1:=(B0.keep (grown_drew (grown_refl _ _))).keep g1;have ⟨_,_,_,x0,x1,x2,x3⟩:=B1;have S1:w1.cell? ⟨M,4,none⟩=some (.map (some SB))∧w1.cell? ⟨w.heap.size,0,none⟩=some (.int .i64 40)∧(Instr.lookup 125 (.map (some SB)) (.int .i64 40) false).run Tryz.prog w1=.ok (.int .i64 2) w1:=⟨H1.cells.2.2.2.2.1,B1.2.2.2.1,clook_sz H1.iz rfl⟩) | (go_at_call 145;refine (pceN (n:=2) (cload 2 _ (by omega)) rfl).mono ?_;rintro e w2 ⟨a2,b2,rfl,p2,g2⟩;have H2:=H1.keep g2;have B2:=B1.keep g2;have ⟨_,_,_,x0,x1,x2,x3⟩:=B2;have S2:w2.cell? ⟨M,4,none⟩=some (.map (some SB))∧w2.cell? ⟨w.heap.size,0,none⟩=some (.int .i64 40)∧(Instr.lookup 125 (.map (some SB)) (.int .i64 40) false).run Tryz.prog w2=.ok (.int .i64 2) w2:=⟨H2.cells.2.2.2.2.1,B2.2.2.2.1,clook_sz H2.iz rfl⟩)))
 all_goals
  clear S1 S2 HS
  go_wp2_with (go_at_call 144;refine (pceN (n:=5) (cpushWord (k) _ k0) rfl).mono ?_;rintro e w3 ⟨a3,b3,rfl,p3,g3⟩;have H3:=H2.keep g3;have B3:=B2.keep g3;have ⟨_,_,_,x0,x1,x2,x3⟩:=B3;go_wp2_with (go_at_call 148;refine (pceN (n:=2) (cpopCell (16) _ (by omega)) rfl).mono ?_;rintro e w4 ⟨a4,b4,rfl,p4,g4⟩;have H4:=H3.keep g4;have B4:=B3.keep g4;have ⟨_,_,_,x0,x1,x2,x3⟩:=B4;go_wp2_with (go_at_call 147;refine (HW.out _ _ _ (H4.allo _) (pcs_new4 (((p1.keep g2).keep g3).keep g4) (p3.keep g4) ((p2.keep g3).keep g4) p4)).mono ?_;rintro e wz ⟨rfl,cz,Hz,_⟩)))
  go_end0
  exact ⟨rfl,cz,Hz⟩
set_option maxHeartbeats 1000000 in
theorem cf_48 (w0 w:World) (M KB SB OB UB:Nat) (cv sv gv:Value) (l ss:List Int) (gs:List (Int × Int)) (jt jf k:Int) (h:CM w0 w M KB SB OB UB cv sv gv l ss gs) (hl:l.length≤80000) (uk:U32 k) :
  Calls Tryz.prog 112 #[.pointer (some ⟨M,0,none⟩),.agg #[.int .i64 48,.int .i64 jt,.int .i64 jf,.int .i64 k]] w fun e w'=>e=.returned (.tuple #[])∧∃ cv',CM w0 w' M KB SB OB UB cv' sv gv (l++piece (kd 48) k 0 0) ss gs:=by
 obtain ⟨c0,c1,c2,c3,c4,c5,c6⟩:=h.cells
 have lM:=h.m.lt
 obtain ⟨k0,k1⟩:=uk
 have H0:=h.allo (.cells #[.int .i64 48,.int .i64 jt,.int .i64 jf,.int .i64 k] 63)
 have B0:=box_new h (.int .i64 48) (.int .i64 jt) (.int .i64 jf) (.int .i64 k) 63
 have HS:(w.alloc (.cells #[.int .i64 48,.int .i64 jt,.int .i64 jf,.int .i64 k] 63)).drew.cell? ⟨M,4,none⟩=some (.map (some SB))∧(w.alloc (.cells #[.int .i64 48,.int .i64 jt,.int .i64 jf,.int .i64 k] 63)).drew.cell? ⟨w.heap.size,0,none⟩=some (.int .i64 48)∧(Instr.lookup 125 (.map (some SB)) (.int .i64 48) false).run Tryz.prog (w.alloc (.cells #[.int .i64 48,.int .i64 jt,.int .i64 jf,.int .i64 k] 63)).drew=.ok (.int .i64 1) (w.alloc (.cells #[.int .i64 48,.int .i64 jt,.int .i64 jf,.int .i64 k] 63)).drew:=⟨H0.drew.cells.2.2.2.2.1,(B0.keep (grown_drew (grown_refl _ _))).2.2.2.1,clook_sz H0.drew.iz rfl⟩
 have HW:Hid (∀ (B:Nat) (cv:Value) w',CM w0 w' M KB SB OB UB cv sv gv (l) ss gs→Pcs w' B [pW 0,pW (k),[5,1],oC (16)]→Calls Tryz.prog 147 #[.pointer (some ⟨M,0,none⟩),.slice (some ⟨B,0,none⟩) 4 4] w' fun e w''=>e=.returned (.tuple #[])∧∃ cv',CM w0 w'' M KB SB OB UB cv' sv gv (l++piece (kd 48) k 0 0) ss gs∧∀ B a b c d,BoxS w' M cv gv B a b c d→BoxS w'' M cv' gv B a b c d):=fun B cv w' h1 h2=>cwriteB w0 w' M KB SB OB UB cv sv gv (l) ss gs B 4 [pW 0,pW (k),[5,1],oC (16)] h1 (by simp) (by simp) (by simp [pW,pC,oC]) (by simp [pW,pC,oC]) (by first | omega | (simp [pW,pC,oC];omega)) h2
 clear h
 go_enter Tryz.func112,Tryz.ntmps112
 go_wp2
 go_region_held3 (fun w'=>w'.cell? ⟨M,4,none⟩=some (.map (some SB))∧w'.cell? ⟨w.heap.size,0,none⟩=some (.int .i64 48)∧(Instr.lookup 125 (.map (some SB)) (.int .i64 48) false).run Tryz.prog w'=.ok (.int .i64 1) w')
  (first | exact HS | assumption)
  ((first | (go_at_call 144;refine (pceN (n:=5) (cpushWord (0) _ (by omega)) rfl).mono ?_;rintro e w1 ⟨a1,b1,rfl,p1,g1⟩;have H1:=H0.drew.keep g1;have B1:=(B0.keep (grown_drew (grown_refl _ _))).keep g1;have ⟨_,_,_,x0,x1,x2,x3⟩:=B1;have S1:w1.cell? ⟨M,4,none⟩=some (.map (some SB))∧w1.cell? ⟨w.heap.size,0,none⟩=some (.int .i64 48)∧(Instr.lookup 125 (.map (some SB)) (.int .i64 48) false).run Tryz.prog w1=.ok (.int .i64 1) w1:=⟨H1.cells.2.2.2.2.1,B1.2.2.2.1,clook_sz H1.iz rfl⟩) | (go_at_call 145;refine (pceN (n:=2) (cload 1 _ (by omega)) rfl).mono ?_;rintro e w2 ⟨a2,b2,rfl,p2,g2⟩;have H2:=H1.keep g2;have B2:=B1.keep g2;have ⟨_,_,_,x0,x1,x2,x3⟩:=B2;have S2:w2.cell? ⟨M,4,none⟩=some (.map (some SB))∧w2.cell? ⟨w.heap.size,0,none⟩=some (.int .i64 48)∧(Instr.lookup 125 (.map (some SB)) (.int .i64 48) false).run Tryz.prog w2=.ok (.int .i64 1) w2:=⟨H2.cells.2.2.2.2.1,B2.2.2.2.1,clook_sz H2.iz rfl⟩)))
 all_goals
  clear S1 S2 HS
  go_wp2_with (go_at_call 144;refine (pceN (n:=5) (cpushWord (k) _ k0) rfl).mono ?_;rintro e w3 ⟨a3,b3,rfl,p3,g3⟩;have H3:=H2.keep g3;have B3:=B2.keep g3;have ⟨_,_,_,x0,x1,x2,x3⟩:=B3;go_wp2_with (go_at_call 148;refine (pceN (n:=2) (cpopCell (16) _ (by omega)) rfl).mono ?_;rintro e w4 ⟨a4,b4,rfl,p4,g4⟩;have H4:=H3.keep g4;have B4:=B3.keep g4;have ⟨_,_,_,x0,x1,x2,x3⟩:=B4;go_wp2_with (go_at_call 147;refine (HW.out _ _ _ (H4.allo _) (pcs_new4 (((p1.keep g2).keep g3).keep g4) (p3.keep g4) ((p2.keep g3).keep g4) p4)).mono ?_;rintro e wz ⟨rfl,cz,Hz,_⟩)))
  go_end0
  exact ⟨rfl,cz,Hz⟩
set_option maxHeartbeats 1000000 in
theorem cf_64 (w0 w:World) (M KB SB OB UB:Nat) (cv sv gv:Value) (l ss:List Int) (gs:List (Int × Int)) (jt jf k:Int) (h:CM w0 w M KB SB OB UB cv sv gv l ss gs) (hl:l.length≤80000) (uk:U32 k) :
  Calls Tryz.prog 112 #[.pointer (some ⟨M,0,none⟩),.agg #[.int .i64 64,.int .i64 jt,.int .i64 jf,.int .i64 k]] w fun e w'=>e=.returned (.tuple #[])∧∃ cv',CM w0 w' M KB SB OB UB cv' sv gv (l++piece (kd 64) k 0 0) ss gs:=by
 obtain ⟨c0,c1,c2,c3,c4,c5,c6⟩:=h.cells
 have lM:=h.m.lt
 obtain ⟨k0,k1⟩:=uk
 have H0:=h.allo (.cells #[.int .i64 64,.int .i64 jt,.int .i64 jf,.int .i64 k] 63)
 have B0:=box_new h (.int .i64 64) (.int .i64 jt) (.int .i64 jf) (.int .i64 k) 63
 have HS:(w.alloc (.cells #[.int .i64 64,.int .i64 jt,.int .i64 jf,.int .i64 k] 63)).drew.cell? ⟨M,4,none⟩=some (.map (some SB))∧(w.alloc (.cells #[.int .i64 64,.int .i64 jt,.int .i64 jf,.int .i64 k] 63)).drew.cell? ⟨w.heap.size,0,none⟩=some (.int .i64 64)∧(Instr.lookup 125 (.map (some SB)) (.int .i64 64) false).run Tryz.prog (w.alloc (.cells #[.int .i64 64,.int .i64 jt,.int .i64 jf,.int .i64 k] 63)).drew=.ok (.int .i64 4) (w.alloc (.cells #[.int .i64 64,.int .i64 jt,.int .i64 jf,.int .i64 k] 63)).drew:=⟨H0.drew.cells.2.2.2.2.1,(B0.keep (grown_drew (grown_refl _ _))).2.2.2.1,clook_sz H0.drew.iz rfl⟩
 have HW:Hid (∀ (B:Nat) (cv:Value) w',CM w0 w' M KB SB OB UB cv sv gv (l) ss gs→Pcs w' B [pC (17),pW (k),[5,4],oC (16)]→Calls Tryz.prog 147 #[.pointer (some ⟨M,0,none⟩),.slice (some ⟨B,0,none⟩) 4 4] w' fun e w''=>e=.returned (.tuple #[])∧∃ cv',CM w0 w'' M KB SB OB UB cv' sv gv (l++piece (kd 64) k 0 0) ss gs∧∀ B a b c d,BoxS w' M cv gv B a b c d→BoxS w'' M cv' gv B a b c d):=fun B cv w' h1 h2=>cwriteB w0 w' M KB SB OB UB cv sv gv (l) ss gs B 4 [pC (17),pW (k),[5,4],oC (16)] h1 (by simp) (by simp) (by simp [pW,pC,oC]) (by simp [pW,pC,oC]) (by first | omega | (simp [pW,pC,oC];omega)) h2
 clear h
 go_enter Tryz.func112,Tryz.ntmps112
 go_wp2
 go_region_held3 (fun w'=>w'.cell? ⟨M,4,none⟩=some (.map (some SB))∧w'.cell? ⟨w.heap.size,0,none⟩=some (.int .i64 64)∧(Instr.lookup 125 (.map (some SB)) (.int .i64 64) false).run Tryz.prog w'=.ok (.int .i64 4) w')
  (first | exact HS | assumption)
  ((first | (go_at_call 144;refine (pceN (n:=5) (cpushWord (0) _ (by omega)) rfl).mono ?_;rintro e w1 ⟨a1,b1,rfl,p1,g1⟩;have H1:=H0.drew.keep g1;have B1:=(B0.keep (grown_drew (grown_refl _ _))).keep g1;have ⟨_,_,_,x0,x1,x2,x3⟩:=B1;have S1:w1.cell? ⟨M,4,none⟩=some (.map (some SB))∧w1.cell? ⟨w.heap.size,0,none⟩=some (.int .i64 64)∧(Instr.lookup 125 (.map (some SB)) (.int .i64 64) false).run Tryz.prog w1=.ok (.int .i64 4) w1:=⟨H1.cells.2.2.2.2.1,B1.2.2.2.1,clook_sz H1.iz rfl⟩) | (go_at_call 145;refine (pceN (n:=2) (cload 4 _ (by omega)) rfl).mono ?_;rintro e w2 ⟨a2,b2,rfl,p2,g2⟩;have H2:=H1.keep g2;have B2:=B1.keep g2;have ⟨_,_,_,x0,x1,x2,x3⟩:=B2;have S2:w2.cell? ⟨M,4,none⟩=some (.map (some SB))∧w2.cell? ⟨w.heap.size,0,none⟩=some (.int .i64 64)∧(Instr.lookup 125 (.map (some SB)) (.int .i64 64) false).run Tryz.prog w2=.ok (.int .i64 4) w2:=⟨H2.cells.2.2.2.2.1,B2.2.2.2.1,clook_sz H2.iz rfl⟩)))
 all_goals
  clear S1 S2 HS
  go_wp2_with (go_at_call 146;refine (pceN (n:=2) (cpushCell (17) _ (by omega)) rfl).mono ?_;rintro e w3 ⟨a3,b3,rfl,p3,g3⟩;have H3:=H2.keep g3;have B3:=B2.keep g3;have ⟨_,_,_,x0,x1,x2,x3⟩:=B3;go_wp2_with (go_at_call 144;refine (pceN (n:=5) (cpushWord (k) _ k0) rfl).mono ?_;rintro e w4 ⟨a4,b4,rfl,p4,g4⟩;have H4:=H3.keep g4;have B4:=B3.keep g4;have ⟨_,_,_,x0,x1,x2,x3⟩:=B4;go_wp2_with (go_at_call 148;refine (pceN (n:=2) (cpopCell (16) _ (by omega)) rfl).mono ?_;rintro e w5 ⟨a5,b5,rfl,p5,g5⟩;have H5:=H4.keep g5;have B5:=B4.keep g5;have ⟨_,_,_,x0,x1,x2,x3⟩:=B5;go_wp2_with (go_at_call 147;refine (HW.out _ _ _ (H5.allo _) (pcs_new4 ((p3.keep g4).keep g5) (p4.keep g5) (((p2.keep g3).keep g4).keep g5) p5)).mono ?_;rintro e wz ⟨rfl,cz,Hz,_⟩))))
  go_end0
  exact ⟨rfl,cz,Hz⟩
end Go.Proofs.YthbcfepbkkbjiaaGreatDoor
