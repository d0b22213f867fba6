import Derived.Test.YthbcfepbkkbjiaaGreatDoorIA2
set_option linter.unusedVariables false
set_option maxRecDepth 100000
namespace Go.Proofs.YthbcfepbkkbjiaaGreatDoor
open Go.RowKit
set_option maxHeartbeats 1000000 in
theorem do_4a (w0 w:World) (M MB:Nat) (cv pv sv:Value) (S:Mst) (o:Nat) (x:Int) (h:PM w0 w M MB cv pv sv S false 0) (h2:2≤S.sp) (h8:S.sp≤8) (ho:o≤9) (ux:U32 (S.st (S.sp-1-1))) (uy:U32 (S.st (S.sp-1))) (hd:div0 o (S.st (S.sp-1))=false) :
  Calls Tryz.prog 99 #[.pointer (some ⟨M,0,none⟩),.agg #[.int .u8 4,.int .u32 o,.int .u32 x]] w fun e w'=>e=.returned (.tuple #[])∧∃ sv',PM w0 w' M MB cv pv sv' ⟨S.pc,S.sp-1-1+1,upd S.st (S.sp-1-1) (opr o (S.st (S.sp-1-1)) (S.st (S.sp-1))),S.cs⟩ false 0:=by
 have lM:=h.m.lt
 have HH:Hid (PM w0 w M MB cv pv sv S false 0):=h
 have HD:Hid (div0 o (S.st (S.sp-1))=false):=hd
 clear h hd
 go_enter Tryz.func99,Tryz.ntmps99
 go_wp2_with (go_at_call 128;refine (pop_any w0 _ M MB cv pv sv S false 0 (HH.out.allo _) (by omega)).mono ?_;rintro e w1 ⟨rfl,⟨sv1,hp1⟩,k1⟩;go_wp2_with (go_at_call 128;refine (pop_any w0 _ M MB cv pv sv1 _ false 0 hp1 (by dsimp only;omega)).mono ?_;dsimp only;rintro e w2 ⟨rfl,⟨sv2,hp2⟩,k2⟩;have xo:w2.cell? ⟨w.heap.size,1,none⟩=some (.int .u32 o):=loc_cell (grown_trans k1 k2) lM rfl;obtain ⟨b0,b1,b2,b3,b4,b5,b6⟩:=hp2.cells;obtain ⟨y3,y4,y5,y6⟩:=hp2.free;dsimp only at b3))
 go_wp2_with (first | (go_at_call 130;refine (Reckon_any o _ _ _ (by omega) ux uy).mono ?_;rw [HD.out];rintro e w3 ⟨rfl,rfl⟩) | (go_at_call 129;refine (pos_ok w0 _ M MB cv pv sv2 _ false 0 _ hp2 (by dsimp only;omega)).mono ?_;rintro e w4 ⟨rfl,sv3,h3⟩))
 go_end0
 exact ⟨rfl,sv3,h3⟩
set_option maxHeartbeats 1000000 in
theorem do_4b (w0 w:World) (M MB:Nat) (cv pv sv:Value) (S:Mst) (o:Nat) (x:Int) (h:PM w0 w M MB cv pv sv S false 0) (h2:2≤S.sp) (h8:S.sp≤8) (ho:o≤9) (ux:U32 (S.st (S.sp-1-1))) (uy:U32 (S.st (S.sp-1))) (hd:div0 o (S.st (S.sp-1))=true) :
  Calls Tryz.prog 99 #[.pointer (some ⟨M,0,none⟩),.agg #[.int .u8 4,.int .u32 o,.int .u32 x]] w fun e w'=>e=.returned (.tuple #[])∧∃ sv',PM w0 w' M MB cv pv sv' ⟨S.pc,S.sp-1-1,S.st,S.cs⟩ true 0:=by
 have lM:=h.m.lt
 have HH:Hid (PM w0 w M MB cv pv sv S false 0):=h
 have HD:Hid (div0 o (S.st (S.sp-1))=true):=hd
 clear h hd
 go_enter Tryz.func99,Tryz.ntmps99
 go_wp2_with (go_at_call 128;refine (pop_any w0 _ M MB cv pv sv S false 0 (HH.out.allo _) (by omega)).mono ?_;rintro e w1 ⟨rfl,⟨sv1,hp1⟩,k1⟩;go_wp2_with (go_at_call 128;refine (pop_any w0 _ M MB cv pv sv1 _ false 0 hp1 (by dsimp only;omega)).mono ?_;dsimp only;rintro e w2 ⟨rfl,⟨sv2,hp2⟩,k2⟩;have xo:w2.cell? ⟨w.heap.size,1,none⟩=some (.int .u32 o):=loc_cell (grown_trans k1 k2) lM rfl;obtain ⟨b0,b1,b2,b3,b4,b5,b6⟩:=hp2.cells;obtain ⟨y3,y4,y5,y6⟩:=hp2.free;dsimp only at b3))
 go_wp2_with (first | (go_at_call 130;refine (Reckon_any o _ _ _ (by omega) ux uy).mono ?_;rw [HD.out];rintro e w3 ⟨rfl,rfl⟩) | (go_at_call 129;refine (pos_no w0 _ M MB cv pv sv2 _ false 0 _ hp2).mono ?_;rintro e w4 ⟨rfl,h3⟩))
 go_end0
 exact ⟨rfl,_,h3⟩
set_option maxHeartbeats 1000000 in
theorem do_8a (w0 w:World) (M MB:Nat) (cv pv sv:Value) (S:Mst) (o x:Nat) (h:PM w0 w M MB cv pv sv S false 0) (h2:2≤S.sp) (ho:o≤3) (hq:askv o (S.st (S.sp-1-1)) (S.st (S.sp-1))=false) :
  Calls Tryz.prog 99 #[.pointer (some ⟨M,0,none⟩),.agg #[.int .u8 8,.int .u32 o,.int .u32 x]] w fun e w'=>e=.returned (.tuple #[])∧∃ sv',PM w0 w' M MB cv pv sv' ⟨S.pc,S.sp-1-1,S.st,S.cs⟩ false 0:=by
 have lM:=h.m.lt
 have HH:Hid (PM w0 w M MB cv pv sv S false 0):=h
 have HQ:Hid (askv o (S.st (S.sp-1-1)) (S.st (S.sp-1))=false):=hq
 clear h hq
 go_enter Tryz.func99,Tryz.ntmps99
 go_wp2_with (go_at_call 128;refine (pop_any w0 _ M MB cv pv sv S false 0 (HH.out.allo _) (by omega)).mono ?_;rintro e w1 ⟨rfl,⟨sv1,hp1⟩,k1⟩;go_wp2_with (go_at_call 128;refine (pop_any w0 _ M MB cv pv sv1 _ false 0 hp1 (by dsimp only;omega)).mono ?_;dsimp only;rintro e w2 ⟨rfl,⟨sv2,hp2⟩,k2⟩;have xo:w2.cell? ⟨w.heap.size,1,none⟩=some (.int .u32 o):=loc_cell (grown_trans k1 k2) lM rfl;obtain ⟨b0,b1,b2,b3,b4,b5,b6⟩:=hp2.cells;obtain ⟨y3,y4,y5,y6⟩:=hp2.free;dsimp only at b3))
 go_wp2_with (go_at_call 131;refine (Holds_any o _ _ _ (by omega)).mono ?_;rw [HQ.out];rintro e w3 ⟨rfl,rfl⟩)
 go_end0
 exact ⟨rfl,sv2,hp2⟩
set_option maxHeartbeats 1000000 in
theorem do_8b (w0 w:World) (M MB:Nat) (cv pv sv:Value) (S:Mst) (o x:Nat) (h:PM w0 w M MB cv pv sv S false 0) (h2:2≤S.sp) (ho:o≤3) (hx:x≤65535) (hp:S.pc≤281474976710656) (hq:askv o (S.st (S.sp-1-1)) (S.st (S.sp-1))=true) :
  Calls Tryz.prog 99 #[.pointer (some ⟨M,0,none⟩),.agg #[.int .u8 8,.int .u32 o,.int .u32 x]] w fun e w'=>e=.returned (.tuple #[])∧∃ sv',PM w0 w' M MB cv pv sv' ⟨S.pc+x,S.sp-1-1,S.st,S.cs⟩ false 0:=by
 have lM:=h.m.lt
 have HH:Hid (PM w0 w M MB cv pv sv S false 0):=h
 have HQ:Hid (askv o (S.st (S.sp-1-1)) (S.st (S.sp-1))=true):=hq
 clear h hq
 go_enter Tryz.func99,Tryz.ntmps99
 go_wp2_with (go_at_call 128;refine (pop_any w0 _ M MB cv pv sv S false 0 (HH.out.allo _) (by omega)).mono ?_;rintro e w1 ⟨rfl,⟨sv1,hp1⟩,k1⟩;go_wp2_with (go_at_call 128;refine (pop_any w0 _ M MB cv pv sv1 _ false 0 hp1 (by dsimp only;omega)).mono ?_;dsimp only;rintro e w2 ⟨rfl,⟨sv2,hp2⟩,k2⟩;have xo:w2.cell? ⟨w.heap.size,1,none⟩=some (.int .u32 o):=loc_cell (grown_trans k1 k2) lM rfl;obtain ⟨b0,b1,b2,b3,b4,b5,b6⟩:=hp2.cells;obtain ⟨y3,y4,y5,y6⟩:=hp2.free;dsimp only at b3))
 go_wp2_with (go_at_call 131;refine (Holds_any o _ _ _ (by omega)).mono ?_;rw [HQ.out];rintro e w3 ⟨rfl,rfl⟩)
 go_end0
 exact ⟨rfl,sv2,hp2.setPc (S.pc+x) _ (by omega)⟩
end Go.Proofs.YthbcfepbkkbjiaaGreatDoor
namespace Go.Proofs.YthbcfepbkkbjiaaGreatDoor
open Go.RowKit
theorem Load_src (w0 w:World) (ao:Option Addr) (n c p s:Nat) (g:Nat→Int) (v:Int) (hs:Siz s) (h1:1≤s) (hm:n≤2000) (hc:n≤c) (h:p+s≤n) (hg:Oct g) (hR:Src w0 .u8 ao n g) (hgr:w0.grownBy w none) (hv:v=p) :
  Calls Tryz.prog 125 #[.slice ao n c,.int .i64 v,.int .i64 s] w fun e w'=>e=.returned (.tuple #[.int .u32 (be g p s),.bool true])∧w'=w:=by
 obtain ⟨b,off,rfl,hrow⟩:=hR (by omega)
 subst hv
 exact Load_ok b off n c p s g _ w hs (by unfold maxLen;omega) hc h hg (hrow.keep hgr (by simp)) rfl
theorem Load_sno (ao:Option Addr) (n c p s:Nat) (v:Int) (w:World) (hm:n≤2000) (hp:p≤4611686018427387904) (hs:s≤4) (h:¬ p+s≤n) (hv:v=p) :
  Calls Tryz.prog 125 #[.slice ao n c,.int .i64 v,.int .i64 s] w fun e w'=>e=.returned (.tuple #[.int .u32 0,.bool false])∧w'=w:=by
 subst hv
 exact Load_no ao n c p s w (by unfold maxLen;omega) hp hs (by omega)
set_option maxHeartbeats 1000000 in
theorem do_5a (w0 w:World) (M MB:Nat) (cv sv:Value) (S:Mst) (o:Nat) (x:Int) (po:Option Addr) (m pc:Nat) (p:Nat→Int) (h:PM w0 w M MB cv (.slice po m pc) sv S false 0) (h2:2≤S.sp) (h8:S.sp≤8) (ho:o=1∨o=2∨o=4) (X Y:Nat) (hX:S.st (S.sp-1-1)=X) (hY:S.st (S.sp-1)=Y) (hx:X<4294967296) (hy:Y<4294967296) (hm:m≤2000) (hmc:m≤pc) (hp:Oct p) (hsrc:Src w0 .u8 po m p) (hfit:X+Y+o≤m) :
  Calls Tryz.prog 99 #[.pointer (some ⟨M,0,none⟩),.agg #[.int .u8 5,.int .u32 o,.int .u32 x]] w fun e w'=>e=.returned (.tuple #[])∧∃ sv',PM w0 w' M MB cv (.slice po m pc) sv' ⟨S.pc,S.sp-1-1+1,upd S.st (S.sp-1-1) (be p (X+Y) o),S.cs⟩ false 0:=by
 have lM:=h.m.lt
 have HH:Hid (PM w0 w M MB cv (.slice po m pc) sv S false 0):=h
 clear h
 have oW:IntKind.i64.wrap (o:Int)=(o:Int):=wrap_nat o (by omega)
 have sW:IntKind.i64.wrap ((X:Int)+(Y:Int))=(X:Int)+(Y:Int):=by rw [IntKind.wrap_i64];omega
 have hsz:Siz o:=by unfold Siz;omega
 go_enter Tryz.func99,Tryz.ntmps99
 go_wp2_with (go_at_call 128;refine (pop_any w0 _ M MB cv (.slice po m pc) sv S false 0 (HH.out.allo _) (by omega)).mono ?_;rw [hY];rintro e w1 ⟨rfl,⟨sv1,hp1⟩,k1⟩;go_wp2_with (go_at_call 128;refine (pop_any w0 _ M MB cv (.slice po m pc) sv1 _ false 0 hp1 (by dsimp only;omega)).mono ?_;dsimp only;rw [hX];rintro e w2 ⟨rfl,⟨sv2,hp2⟩,k2⟩;have xo:w2.cell? ⟨w.heap.size,1,none⟩=some (.int .u32 o):=loc_cell (grown_trans k1 k2) lM rfl;obtain ⟨b0,b1,b2,b3,b4,b5,b6⟩:=hp2.cells;obtain ⟨y3,y4,y5,y6⟩:=hp2.free;dsimp only at b3))
 go_region_with (first | (go_at_call 125;refine (Load_src w0 _ po m pc (X+Y) o p _ hsz (by omega) hm hmc hfit hp hsrc (by repeat (first | exact hp2.gr | refine grown_drew ?_ | refine grown_none ?_ (grown_drewN _ _ _))) (by omega)).mono ?_;rintro e w3 ⟨rfl,rfl⟩) | (go_at_call 129;refine (pos_ok w0 _ M MB cv (.slice po m pc) sv2 ⟨S.pc,S.sp-1-1,S.st,S.cs⟩ false 0 _ (by repeat (first | exact hp2 | refine PM.drew ?_ | refine PM.drewN ?_ _)) (by dsimp only;omega)).mono ?_;rintro e w4 ⟨rfl,sv3,h3⟩))
 all_goals go_wp2
 all_goals go_end0
 all_goals exact ⟨rfl,sv3,by repeat (first | exact h3 | refine PM.drew ?_ | refine PM.drewN ?_ _)⟩
set_option maxHeartbeats 1000000 in
theorem do_5b (w0 w:World) (M MB:Nat) (cv sv:Value) (S:Mst) (o:Nat) (x:Int) (po:Option Addr) (m pc:Nat) (p:Nat→Int) (h:PM w0 w M MB cv (.slice po m pc) sv S false 0) (h2:2≤S.sp) (h8:S.sp≤8) (ho:o=1∨o=2∨o=4) (X Y:Nat) (hX:S.st (S.sp-1-1)=X) (hY:S.st (S.sp-1)=Y) (hx:X<4294967296) (hy:Y<4294967296) (hm:m≤2000) (hfit:¬ X+Y+o≤m) :
  Calls Tryz.prog 99 #[.pointer (some ⟨M,0,none⟩),.agg #[.int .u8 5,.int .u32 o,.int .u32 x]] w fun e w'=>e=.returned (.tuple #[])∧∃ sv',PM w0 w' M MB cv (.slice po m pc) sv' ⟨S.pc,S.sp-1-1,S.st,S.cs⟩ true 0:=by
 have lM:=h.m.lt
 have HH:Hid (PM w0 w M MB cv (.slice po m pc) sv S false 0):=h
 clear h
 have oW:IntKind.i64.wrap (o:Int)=(o:Int):=wrap_nat o (by omega)
 have sW:IntKind.i64.wrap ((X:Int)+(Y:Int))=(X:Int)+(Y:Int):=by rw [IntKind.wrap_i64];omega
 have hsz:Siz o:=by unfold Siz;omega
 go_enter Tryz.func99,Tryz.ntmps99
 go_wp2_with (go_at_call 128;refine (pop_any w0 _ M MB cv (.slice po m pc) sv S false 0 (HH.out.allo _) (by omega)).mono ?_;rw [hY];rintro e w1 ⟨rfl,⟨sv1,hp1⟩,k1⟩;go_wp2_with (go_at_call 128;refine (pop_any w0 _ M MB cv (.slice po m pc) sv1 _ false 0 hp1 (by dsimp only;omega)).mono ?_;dsimp only;rw [hX];rintro e w2 ⟨rfl,⟨sv2,hp2⟩,k2⟩;have xo:w2.cell? ⟨w.heap.size,1,none⟩=some (.int .u32 o):=loc_cell (grown_trans k1 k2) lM rfl;obtain ⟨b0,b1,b2,b3,b4,b5,b6⟩:=hp2.cells;obtain ⟨y3,y4,y5,y6⟩:=hp2.free;dsimp only at b3))
 go_region_with (first | (go_at_call 125;refine (Load_sno po m pc (X+Y) o _ _ hm (by omega) (by omega) hfit (by omega)).mono ?_;rintro e w3 ⟨rfl,rfl⟩) | (go_at_call 129;refine (pos_no w0 _ M MB cv (.slice po m pc) sv2 ⟨S.pc,S.sp-1-1,S.st,S.cs⟩ false 0 _ (by repeat (first | exact hp2 | refine PM.drew ?_ | refine PM.drewN ?_ _))).mono ?_;rintro e w4 ⟨rfl,h3⟩))
 all_goals go_wp2
 all_goals go_end0
 all_goals exact ⟨rfl,sv2,by repeat (first | exact h3 | refine PM.drew ?_ | refine PM.drewN ?_ _)⟩
end Go.Proofs.YthbcfepbkkbjiaaGreatDoor
