import Derived.Test.YthbcfepbkkbjiaaGreatDoorIQ2
set_option linter.unusedVariables false
set_option maxRecDepth 100000
namespace Go.Proofs.YthbcfepbkkbjiaaGreatDoor
open Go.RowKit
theorem Tryz.infoU32:(Tryz.prog.info? 65).map (fun i=>(i.zero,i.size,i.bytes))=some (some (.int .u32 0),1,4):=by kernel_rfl
set_option maxHeartbeats 400000 in
theorem push_any (w0 w:World) (M MB:Nat) (cv pv sv:Value) (S:Mst) (sd:Bool) (res X:Int) (h:PM w0 w M MB cv pv sv S sd res) (h8:S.sp≤8) :
  Calls Tryz.prog 127 #[.pointer (some ⟨M,0,none⟩),.int .u32 X] w fun e w'=>e=.returned (.tuple #[])∧∃ sv',PM w0 w' M MB cv pv sv' ⟨S.pc,S.sp+1,upd S.st S.sp X,S.cs⟩ sd res:=by
 obtain ⟨i0,hi,hz0,hz1,hz2⟩:=info_parts Tryz.infoU32
 obtain ⟨c0,c1,c2,c3,c4,c5,c6⟩:=h.cells
 obtain ⟨z3,z4,z5,z6⟩:=h.free
 have lM:=h.m.lt
 have HH:Hid (PM w0 w M MB cv pv sv S sd res):=h
 clear h
 go_enter Tryz.func127,Tryz.ntmps127
 go_wp2_with (at_builtin;refine wpList_push _ w0 rfl _ _ 165 rfl 65 i0 (.int .u32 0) 4 Tryz.underlying165 hi hz0 hz1 hz2 rfl .u32 _ _ _ rfl (HH.out.allo _).st (HH.out.allo _).gr _ _ _ _ rfl (heap_top _ _ _ (by simp)) (by omega) (by decide) ?_;intro g2 p2 w3 o2 gr2 k2 u2;obtain ⟨⟨q1,q2⟩,Q3⟩:=PM.append (HH.out.allo _) gr2 k2 o2 u2;clear k2 u2)
 go_end0
 exact ⟨rfl,_,Q3⟩
set_option maxHeartbeats 400000 in
theorem pop_any (w0 w:World) (M MB:Nat) (cv pv sv:Value) (S:Mst) (sd:Bool) (res:Int) (h:PM w0 w M MB cv pv sv S sd res) (hs:1≤S.sp) :
  Calls Tryz.prog 128 #[.pointer (some ⟨M,0,none⟩)] w fun e w'=>e=.returned (.int .u32 (S.st (S.sp-1)))∧(∃ sv',PM w0 w' M MB cv pv sv' ⟨S.pc,S.sp-1,S.st,S.cs⟩ sd res)∧w.grownBy w' (some M):=by
 obtain ⟨c0,c1,c2,c3,c4,c5,c6⟩:=h.cells
 obtain ⟨z3,z4,z5,z6⟩:=h.free
 obtain ⟨G,cap,hv,hcap,hmax,hc,ho⟩:=h.st.pop hs
 have HR:Hid (PM w0 (w.setCell ⟨M,4,none⟩ (.slice (some ⟨G,0,none⟩) (S.sp-1) cap)) M MB cv pv (.slice (some ⟨G,0,none⟩) (S.sp-1) cap) ⟨S.pc,S.sp-1,S.st,S.cs⟩ sd res) :=
  h.setSt _ _ _ (ho (S.sp-1) (by omega)) (fun g e=>h.own g (by rw [hv];exact e))
 have ct:=hc (S.sp-1) (by omega)
 rw [hv] at c4
 clear h hc ho hv
 generalize S.sp=sp at *
 unfold maxLen at hmax
 go_enter Tryz.func128,Tryz.ntmps128
 go_wp2
 go_ret
 exact ⟨rfl,⟨_,HR.out⟩,grown_setCell w ⟨M,4,none⟩ _⟩
set_option maxHeartbeats 400000 in
theorem stop_any (w0 w:World) (M MB:Nat) (cv pv sv:Value) (S:Mst) (sd:Bool) (res r:Int) (h:PM w0 w M MB cv pv sv S sd res) :
  Calls Tryz.prog 132 #[.pointer (some ⟨M,0,none⟩),.int .u32 r] w fun e w'=>e=.returned (.tuple #[])∧PM w0 w' M MB cv pv sv S true r:=by
 obtain ⟨c0,c1,c2,c3,c4,c5,c6⟩:=h.cells
 obtain ⟨z3,z4,z5,z6⟩:=h.free
 have HH:Hid (PM w0 w M MB cv pv sv S sd res):=h
 clear h
 go_enter Tryz.func132,Tryz.ntmps132
 go_wp2
 go_end0
 exact ⟨rfl,HH.out.stop r⟩
set_option maxHeartbeats 400000 in
theorem pos_ok (w0 w:World) (M MB:Nat) (cv pv sv:Value) (S:Mst) (sd:Bool) (res X:Int) (h:PM w0 w M MB cv pv sv S sd res) (h8:S.sp≤8) :
  Calls Tryz.prog 129 #[.pointer (some ⟨M,0,none⟩),.int .u32 X,.bool true] w fun e w'=>e=.returned (.tuple #[])∧∃ sv',PM w0 w' M MB cv pv sv' ⟨S.pc,S.sp+1,upd S.st S.sp X,S.cs⟩ sd res:=by
 go_enter Tryz.func129,Tryz.ntmps129
 go_wp2_with (go_at_call 127;refine (push_any w0 _ M MB cv pv sv S sd res X h h8).mono ?_;rintro e w1 ⟨rfl,sv',h1⟩)
 go_end0
 exact ⟨rfl,sv',h1⟩
set_option maxHeartbeats 400000 in
theorem pos_no (w0 w:World) (M MB:Nat) (cv pv sv:Value) (S:Mst) (sd:Bool) (res X:Int) (h:PM w0 w M MB cv pv sv S sd res) :
  Calls Tryz.prog 129 #[.pointer (some ⟨M,0,none⟩),.int .u32 X,.bool false] w fun e w'=>e=.returned (.tuple #[])∧PM w0 w' M MB cv pv sv S true 0:=by
 go_enter Tryz.func129,Tryz.ntmps129
 go_wp2_with (go_at_call 132;refine (stop_any w0 _ M MB cv pv sv S sd res 0 h).mono ?_;rintro e w1 ⟨rfl,h1⟩)
 exact bodyPost_ret (v:=.tuple #[]) (by simp [results,Tryz.results129,go_sem]) rfl ⟨rfl,h1⟩
set_option maxHeartbeats 400000 in
theorem known_any (c o x:Int) (s:Shp) (w:World) (h:shp c=some s) (ho:0≤o) :
  Calls Tryz.prog 126 #[.agg #[.int .u8 c,.int .u32 o,.int .u32 x]] w fun e w'=>e=.returned (.bool (knw c o))∧w.grownBy w' none:=by
 rcases shp_cases h with ⟨rfl,rfl⟩ | ⟨rfl,rfl⟩ | ⟨rfl,rfl⟩ | ⟨rfl,rfl⟩ | ⟨rfl,rfl⟩ | ⟨rfl,rfl⟩ | ⟨rfl,rfl⟩ | ⟨rfl,rfl⟩ | ⟨rfl,rfl⟩
 ·clear h
  go_enter Tryz.func126,Tryz.ntmps126
  go_wp2
  go_ret
  exact ⟨rfl,grown_alloc (grown_refl _ _) _⟩
 ·clear h
  go_enter Tryz.func126,Tryz.ntmps126
  go_wp2
  go_ret
  exact ⟨by rw [show knw 2 o=decide (o<18) from decide_eq_decide.2 (by omega)];rfl,grown_alloc (grown_refl _ _) _⟩
 ·clear h
  go_enter Tryz.func126,Tryz.ntmps126
  go_wp2
  go_ret
  exact ⟨by rw [show knw 3 o=decide (o<18) from decide_eq_decide.2 (by omega)];rfl,grown_alloc (grown_refl _ _) _⟩
 ·clear h
  go_enter Tryz.func126,Tryz.ntmps126
  go_wp2
  go_ret
  exact ⟨by rw [show knw 4 o=decide (o<10) from decide_eq_decide.2 (by omega)];rfl,grown_alloc (grown_refl _ _) _⟩
 ·clear h
  by_cases o1:o=1
  ·subst o1
   go_enter Tryz.func126,Tryz.ntmps126
   go_wp2
   go_ret
   exact ⟨rfl,grown_alloc (grown_refl _ _) _⟩
  by_cases o2:o=2
  ·subst o2
   go_enter Tryz.func126,Tryz.ntmps126
   go_wp2
   go_ret
   exact ⟨rfl,grown_alloc (grown_refl _ _) _⟩
  by_cases o4:o=4
  ·subst o4
   go_enter Tryz.func126,Tryz.ntmps126
   go_wp2
   go_ret
   exact ⟨rfl,grown_alloc (grown_refl _ _) _⟩
  have q1:(o == 1)=false:=by simp [o1]
  have q2:(o == 2)=false:=by simp [o2]
  have q4:(o == 4)=false:=by simp [o4]
  rw [show knw 5 o=false by simp [knw,o1,o2,o4]]
  go_enter Tryz.func126,Tryz.ntmps126
  go_wp2
  go_ret
  exact ⟨rfl,grown_alloc (grown_refl _ _) _⟩
 ·clear h
  go_enter Tryz.func126,Tryz.ntmps126
  go_wp2
  go_ret
  exact ⟨rfl,grown_alloc (grown_refl _ _) _⟩
 ·clear h
  go_enter Tryz.func126,Tryz.ntmps126
  go_wp2
  go_ret
  exact ⟨rfl,grown_alloc (grown_refl _ _) _⟩
 ·clear h
  go_enter Tryz.func126,Tryz.ntmps126
  go_wp2
  go_ret
  exact ⟨by rw [show knw 8 o=decide (o<4) from decide_eq_decide.2 (by omega)];rfl,grown_alloc (grown_refl _ _) _⟩
 ·clear h
  go_enter Tryz.func126,Tryz.ntmps126
  go_wp2
  go_ret
  exact ⟨rfl,grown_alloc (grown_refl _ _) _⟩
theorem Tryz.zeroShape (w:World):(zeroValue 204).run Tryz.prog w=.ok (.agg #[.int .i64 0,.int .i64 0,.int .i64 0,.int .i64 0]) w:=by kernel_rfl
theorem smap_some {c:Int} {s:Shp} (h:shp c=some s):smap c=some (shv s):=by unfold smap;rw [h];rfl
theorem smap_none {c:Int} (h:shp c=none):smap c=none:=by unfold smap;rw [h];rfl
theorem look_shape {w:World} {MB:Nat} (h:BMap w MB smap) {c:Int} {s:Shp} (hs:shp c=some s) :
  (Instr.lookup 163 (.map (some MB)) (.int .u8 c) false).run Tryz.prog w=.ok (.agg #[.int .i64 s.wh,.int .i64 s.nb,.int .i64 s.po,.int .i64 s.pu]) w ∧
  (Instr.lookup 163 (.map (some MB)) (.int .u8 c) true).run Tryz.prog w=.ok (.tuple #[.agg #[.int .i64 s.wh,.int .i64 s.nb,.int .i64 s.po,.int .i64 s.pu],.bool true]) w:=by
 have k:=fun cm=>h.look (P:=Tryz.prog) Tryz.underlying163 Tryz.underlying5 (Tryz.zeroShape _) c cm
 have k0:=k false
 have k1:=k true
 rw [smap_some hs] at k0 k1
 exact ⟨k0,k1⟩
theorem look_no {w:World} {MB:Nat} (h:BMap w MB smap) {c:Int} (hs:shp c=none) :
  (Instr.lookup 163 (.map (some MB)) (.int .u8 c) true).run Tryz.prog w=.ok (.tuple #[.agg #[.int .i64 0,.int .i64 0,.int .i64 0,.int .i64 0],.bool false]) w:=by
 have k1:=h.look (P:=Tryz.prog) Tryz.underlying163 Tryz.underlying5 (Tryz.zeroShape _) c true
 rw [smap_none hs] at k1
 exact k1
set_option maxHeartbeats 400000 in
theorem pfits_any (w0 w:World) (M MB:Nat) (cv pv sv:Value) (S:Mst) (sd:Bool) (res c o x:Int) (s:Shp) (h:PM w0 w M MB cv pv sv S sd res) (h8:S.sp≤8) (hs:shp c=some s) (ho:0≤o) :
  Calls Tryz.prog 98 #[.pointer (some ⟨M,0,none⟩),.agg #[.int .u8 c,.int .u32 o,.int .u32 x]] w fun e w'=>e=.returned (.bool (decide (s.po≤S.sp) && decide (S.sp-s.po+s.pu≤8) && knw c o))∧w.grownBy w' none:=by
 obtain ⟨ao,cap,hsv,_⟩:=h.st
 obtain ⟨c0,c1,c2,c3,c4,c5,c6⟩:=h.cells
 obtain ⟨k4,p2,u1⟩:=shp_bd hs
 rw [hsv] at c4
 have lM:=h.m.lt
 have HK:Hid (shp c=some s):=hs
 obtain ⟨I,hI⟩:∃ I,I=Obj.cells #[.int .u8 c,.int .u32 o,.int .u32 x] 170:=⟨_,rfl⟩
 have hl0:=(look_shape (h.allo I).mp hs).1
 have hl1:=(look_shape (h.allo I).drew.mp hs).1
 have hl2:=fun O=>(look_shape ((h.allo I).drew.allo O).mp hs).1
 have hl3:=fun O=>(look_shape ((h.allo I).allo O).drew.mp hs).1
 have hl4:=fun O=>(look_shape ((h.allo I).allo O).mp hs).1
 rw [hI] at hl0 hl1 hl2 hl3 hl4
 clear hI h hs hsv
 have V1:IntKind.i64.wrap ((S.sp:Int)-(s.po:Int))=(S.sp:Int)-(s.po:Int):=by rw [IntKind.wrap_i64];omega
 have V2:IntKind.i64.wrap ((S.sp:Int)-(s.po:Int)+(s.pu:Int))=(S.sp:Int)-(s.po:Int)+(s.pu:Int):=by rw [IntKind.wrap_i64];omega
 by_cases hA:s.po≤S.sp
 ·have tA:decide (0≤(S.sp:Int)-(s.po:Int))=true:=by simp;omega
  by_cases hC:S.sp-s.po+s.pu≤8
  ·have tC:decide ((S.sp:Int)-(s.po:Int)+(s.pu:Int)≤8)=true:=by simp;omega
   rw [decide_eq_true hA,decide_eq_true hC]
   go_enter Tryz.func98,Tryz.ntmps98
   go_wp2
   go_region
   go_wp2
   go_quiet (fail)
   go_wp2_with (go_at_call 126;refine (known_any c o x s _ HK.out ho).mono ?_;rintro e w1 ⟨rfl,hg1⟩)
   go_ret
   refine ⟨by simp,grown_trans ?_ hg1⟩
   (repeat (first | exact grown_refl _ _ | refine grown_drew ?_ | refine grown_alloc ?_ _ | refine grown_none ?_ (grown_drewN _ _ _) | refine grown_set ?_ (by simp) _ | refine grown_set ?_ (by simp;omega) _))
  ·have tC:decide ((S.sp:Int)-(s.po:Int)+(s.pu:Int)≤8)=false:=by simp;omega
   rw [decide_eq_true hA,decide_eq_false hC]
   go_enter Tryz.func98,Tryz.ntmps98
   go_wp2
   go_region
   go_wp2
   go_quiet (fail)
   go_wp2
   go_ret
   refine ⟨rfl,?_⟩
   (repeat (first | exact grown_refl _ _ | exact hg1 | refine grown_drew ?_ | refine grown_alloc ?_ _ | refine grown_none ?_ (grown_drewN _ _ _) | refine grown_set ?_ (by simp) _ | refine grown_set ?_ (by simp;omega) _))
 ·have tA:decide (0≤(S.sp:Int)-(s.po:Int))=false:=by simp;omega
  rw [decide_eq_false hA]
  go_enter Tryz.func98,Tryz.ntmps98
  go_wp2
  go_region
  go_wp2
  go_quiet (fail)
  go_wp2
  go_ret
  refine ⟨rfl,?_⟩
  (repeat (first | exact grown_refl _ _ | exact hg1 | refine grown_drew ?_ | refine grown_alloc ?_ _ | refine grown_none ?_ (grown_drewN _ _ _) | refine grown_set ?_ (by simp) _ | refine grown_set ?_ (by simp;omega) _))
end Go.Proofs.YthbcfepbkkbjiaaGreatDoor
namespace Go.Proofs.YthbcfepbkkbjiaaGreatDoor
open Go.RowKit
theorem shp_siz {c:Int} {s:Shp} (h:shp c=some s):Siz s.wh∧Siz s.nb:=by
 rcases shp_cases h with ⟨rfl,rfl⟩ | ⟨rfl,rfl⟩ | ⟨rfl,rfl⟩ | ⟨rfl,rfl⟩ | ⟨rfl,rfl⟩ | ⟨rfl,rfl⟩ | ⟨rfl,rfl⟩ | ⟨rfl,rfl⟩ | ⟨rfl,rfl⟩ <;> simp [Siz]
theorem Load_at (w0 w:World) (b off n c p s:Nat) (g:Nat→Int) (X v:Int) (hs:Siz s) (hm:n≤140737488355328) (hc:n≤c) (h:p+s≤n) (hg:Oct g) (hR:Row w0 .u8 b off n g) (hgr:w0.grownBy w none) (hX:X=be g p s) (hv:v=p) :
  Calls Tryz.prog 125 #[.slice (some ⟨b,off,none⟩) n c,.int .i64 v,.int .i64 s] w fun e w'=>e=.returned (.tuple #[.int .u32 X,.bool true])∧w'=w:=by
 subst hv
 exact Load_ok b off n c p s g X w hs (by unfold maxLen;omega) hc h hg (hR.keep hgr (by simp)) hX
theorem box_heap {w wr:World} {o:Obj} (hg:(w.alloc o).grownBy wr none):wr.heap[w.heap.size]?=some o:=by
 rw [hg.block w.heap.size (by simp) (by simp)];exact heap_top _ _ _ rfl
theorem three {wr:World} {B:Nat} {a b c:Value} {e:TypeId} (h:wr.heap[B]?=some (.cells #[a,b,c] e (0,0))) :
  wr.cell? ⟨B,0,none⟩=some a∧wr.cell? ⟨B,1,none⟩=some b∧wr.cell? ⟨B,2,none⟩=some c∧wr.frozen? ⟨B,0,none⟩=false∧wr.frozen? ⟨B,1,none⟩=false∧wr.frozen? ⟨B,2,none⟩=false :=
 ⟨cell_of_row wr B 0 _ e (0,0) h,cell_of_row wr B 1 _ e (0,0) h,cell_of_row wr B 2 _ e (0,0) h,by simp [World.frozen?,h],by simp [World.frozen?,h],by simp [World.frozen?,h]⟩
theorem PM.loc {w0 w:World} {M MB:Nat} {cv pv sv:Value} {S:Mst} {sd:Bool} {res:Int} (h:PM w0 w M MB cv pv sv S sd res) {B:Nat} (hB:w0.heap.size≤B) (n1:B≠M) (n2:B≠MB) (n3:∀ g,sv.ownBlock=some g→g≠B) (j:Nat) (v:Value) :
  PM w0 (w.setCell ⟨B,j,none⟩ v) M MB cv pv sv S sd res:=by
 have hg:=grown_setCell w ⟨B,j,none⟩ v
 exact ⟨grown_set h.gr hB _,h.hM,h.hB,h.ne,h.m.keep hg (by simp;exact fun e=>n1 e.symm),h.st.other hg n3,h.own,h.mp.keep hg (by simp;exact fun e=>n2 e.symm)⟩
theorem in_cells (w:World) (I:Array Value) (hI:I.size=3) (t:TypeId) (M:Nat) (lM:M<w.heap.size) (k1 k2:Nat) (a b c v x y z:Value) (O:Obj) :
  ((((((((((w.alloc (.cells I t)).drewN k1).setCell ⟨w.heap.size,0,none⟩ a).alloc O).drewN k2).setCell ⟨w.heap.size,1,none⟩ b).setCell ⟨w.heap.size,2,none⟩ c).setCell ⟨M,3,none⟩ v).setCell ⟨w.heap.size,0,none⟩ x).cell? ⟨w.heap.size,0,none⟩=some x) ∧
  (((((((((((w.alloc (.cells I t)).drewN k1).setCell ⟨w.heap.size,0,none⟩ a).alloc O).drewN k2).setCell ⟨w.heap.size,1,none⟩ b).setCell ⟨w.heap.size,2,none⟩ c).setCell ⟨M,3,none⟩ v).setCell ⟨w.heap.size,0,none⟩ x).setCell ⟨w.heap.size,1,none⟩ y).cell? ⟨w.heap.size,1,none⟩=some y) ∧
  ((((((((((((w.alloc (.cells I t)).drewN k1).setCell ⟨w.heap.size,0,none⟩ a).alloc O).drewN k2).setCell ⟨w.heap.size,1,none⟩ b).setCell ⟨w.heap.size,2,none⟩ c).setCell ⟨M,3,none⟩ v).setCell ⟨w.heap.size,0,none⟩ x).setCell ⟨w.heap.size,1,none⟩ y).setCell ⟨w.heap.size,2,none⟩ z).cell? ⟨w.heap.size,2,none⟩=some z):=by
 have B:=blk_new w I t
 rw [hI] at B
 have B1:=(((((B.drewN k1).set' (j:=0) (by omega) a).alloc O).drewN k2).set' (j:=1) (by omega) b).set' (j:=2) (by omega) c
 have B2:=B1.setOther (a:=⟨M,3,none⟩) (by simp;omega) v
 have B3:=B2.set' (j:=0) (by omega) x
 have B4:=B3.set' (j:=1) (by omega) y
 have B5:=B4.set' (j:=2) (by omega) z
 exact ⟨B3.cell (j:=0) (by omega),B4.cell (j:=1) (by omega),B5.cell (j:=2) (by omega)⟩
set_option maxHeartbeats 1000000 in
theorem fetch_ok (w0 w:World) (M MB b off n c:Nat) (g:Nat→Int) (pv sv:Value) (S:Mst) (sd:Bool) (res:Int) (s:Shp) (hn:n≤140737488355328) (hc:n≤c) (hg:Oct g) (hR:Row w0 .u8 b off n g)
  (h:PM w0 w M MB (.slice (some ⟨b,off,none⟩) n c) pv sv S sd res) (hpc:S.pc<n) (hs:shp (g S.pc)=some s) (hA:S.pc+1+s.wh+s.nb≤n) :
  Calls Tryz.prog 97 #[.pointer (some ⟨M,0,none⟩)] w fun e w'=>e=.returned (.tuple #[.agg #[.int .u8 (g S.pc),.int .u32 (be g (S.pc+1) s.wh),.int .u32 (be g (S.pc+1+s.wh) s.nb)],.bool true])∧PM w0 w' M MB (.slice (some ⟨b,off,none⟩) n c) pv sv ⟨S.pc+1+s.wh+s.nb,S.sp,S.st,S.cs⟩ sd res:=by
 obtain ⟨pc,sp,st,cs⟩:=S
 dsimp only at *
 obtain ⟨c0,c1,c2,c3,c4,c5,c6⟩:=h.cells
 obtain ⟨z3,z4,z5,z6⟩:=h.free
 dsimp only at c3
 obtain ⟨sz1,sz2⟩:=shp_siz hs
 obtain ⟨k4,p2,u1⟩:=shp_bd hs
 have lM:=h.m.lt
 have HH:Hid (PM w0 w M MB (.slice (some ⟨b,off,none⟩) n c) pv sv ⟨pc,sp,st,cs⟩ sd res):=h
 have HS:Hid (shp (g pc)=some s):=hs
 have hb:=hg pc
 have B1:g pc=be g pc 1:=(be_one g pc).symm
 have HB1:Hid (g pc=be g pc 1):=B1
 clear h hs B1
 have hlA:∀ k O,(Instr.lookup 163 (.map (some MB)) (.int .u8 (g pc)) true).run Tryz.prog ((((w.alloc (.cells #[.int .u8 0,.int .u32 0,.int .u32 0] 170)).drewN k).setCell ⟨w.heap.size,0,none⟩ (.int .u8 (g pc))).alloc O).drew=_:=fun k O=>(look_shape (HH.out.keep (by repeat (first | exact grown_refl _ _ | refine grown_drew ?_ | refine grown_alloc ?_ _ | refine grown_none ?_ (grown_drewN _ _ _) | refine grown_set ?_ (Nat.le_refl _) _))).mp HS.out).2
 have hlB:∀ k,(Instr.lookup 163 (.map (some MB)) (.int .u8 (g pc)) true).run Tryz.prog (((w.alloc (.cells #[.int .u8 0,.int .u32 0,.int .u32 0] 170)).drewN k).setCell ⟨w.heap.size,0,none⟩ (.int .u8 (g pc))).drew=_:=fun k=>(look_shape (HH.out.keep (by repeat (first | exact grown_refl _ _ | refine grown_drew ?_ | refine grown_alloc ?_ _ | refine grown_none ?_ (grown_drewN _ _ _) | refine grown_set ?_ (Nat.le_refl _) _))).mp HS.out).2
 have F0:=fun k1 k2 a b c v x O=>(in_cells w #[.int .u8 0,.int .u32 0,.int .u32 0] rfl 170 M lM k1 k2 a b c v x x x O).1
 have F1:=fun k1 k2 a b c v x y O=>(in_cells w #[.int .u8 0,.int .u32 0,.int .u32 0] rfl 170 M lM k1 k2 a b c v x y y O).2.1
 have F2:=fun k1 k2 a b c v x y z O=>(in_cells w #[.int .u8 0,.int .u32 0,.int .u32 0] rfl 170 M lM k1 k2 a b c v x y z O).2.2
 have W1:IntKind.i64.wrap ((pc:Int)+1)=(pc:Int)+1:=by rw [IntKind.wrap_i64];omega
 have W2:IntKind.i64.wrap ((pc:Int)+1+(s.wh:Int))=(pc:Int)+1+(s.wh:Int):=by rw [IntKind.wrap_i64];omega
 have W3:IntKind.i64.wrap ((pc:Int)+1+(s.wh:Int)+(s.nb:Int))=(pc:Int)+1+(s.wh:Int)+(s.nb:Int):=by rw [IntKind.wrap_i64];omega
 go_enter Tryz.func97,Tryz.ntmps97
 go_wp2
 go_quiet ((go_at_call 125;refine Calls.quiet_of_same (Load_at w0 _ b off n c pc 1 g (g pc) _ (Or.inr (Or.inl rfl)) hn hc (by omega) hg hR (by repeat (first | exact HH.out.gr | refine grown_drew ?_ | refine grown_alloc ?_ _ | refine grown_none ?_ (grown_drewN _ _ _))) HB1.out rfl)))
 go_wp2
 go_region
 all_goals go_wp2
 go_quiet (fail)
 go_wp2
 go_region_with (go_at_call 125;refine (Load_at w0 _ b off n c (pc+1) s.wh g (be g (pc+1) s.wh) _ sz1 hn hc (by omega) hg hR (by repeat (first | exact HH.out.gr | refine grown_drew ?_ | refine grown_alloc ?_ _ | refine grown_none ?_ (grown_drewN _ _ _) | refine grown_set ?_ (Nat.le_trans HH.out.gr.size (Nat.le_refl _)) _ | refine grown_set ?_ (Nat.le_trans HH.out.gr.size (Nat.le_succ _)) _)) rfl (by omega)).mono ?_;rintro e w1 ⟨rfl,rfl⟩)
 all_goals (first | exact ?main | refine ?main)
 go_wp2
 go_region_with (go_at_call 125;refine (Load_at w0 _ b off n c (pc+1+s.wh) s.nb g (be g (pc+1+s.wh) s.nb) _ sz2 hn hc (by omega) hg hR (by repeat (first | exact HH.out.gr | refine grown_drew ?_ | refine grown_alloc ?_ _ | refine grown_none ?_ (grown_drewN _ _ _) | refine grown_set ?_ (Nat.le_trans HH.out.gr.size (Nat.le_refl _)) _ | refine grown_set ?_ (Nat.le_trans HH.out.gr.size (Nat.le_succ _)) _)) rfl (by omega)).mono ?_;rintro e w1 ⟨rfl,rfl⟩)
 all_goals (first | exact ?main2 | refine ?main2)
 go_wp2
 have n1:w.heap.size≠M:=by omega
 have n2:w.heap.size≠MB:=by have:=HH.out.mp.lt;omega
 have n3:∀ g,sv.ownBlock=some g→g≠w.heap.size:=fun g e=>by have:=(HH.out.st.own g e).2;omega
 have n0:=HH.out.gr.size
 refine bodyPost_ret (v:=.tuple #[.agg #[.int .u8 (g pc),.int .u32 (be g (pc+1) s.wh),.int .u32 (be g (pc+1+s.wh) s.nb)],.bool true]) (by simp only [results,Tryz.results97];go_simp) rfl ⟨rfl,?_⟩
 refine PM.drew (PM.loc (PM.loc (PM.loc (PM.setPc (S:=⟨pc,sp,st,cs⟩) (HH.out.keep ?_) (pc+1+s.wh+s.nb) _ (by omega)) n0 n1 n2 n3 _ _) n0 n1 n2 n3 _ _) n0 n1 n2 n3 _ _)
 (repeat (first | exact grown_refl _ _ | refine grown_drew ?_ | refine grown_alloc ?_ _ | refine grown_none ?_ (grown_drewN _ _ _) | refine grown_set ?_ (Nat.le_refl _) _))
end Go.Proofs.YthbcfepbkkbjiaaGreatDoor
namespace Go.Proofs.YthbcfepbkkbjiaaGreatDoor
open Go.RowKit
def NoIn (w0:World) (e:Ending) (w':World):Prop:=(∃ a b d:Int,e=.returned (.tuple #[.agg #[.int .u8 a,.int .u32 b,.int .u32 d],.bool false]))∧w0.grownBy w' none
set_option maxHeartbeats 1000000 in
theorem fetch_end (w0 w:World) (M MB:Nat) (co:Option Addr) (n c:Nat) (pv sv:Value) (S:Mst) (sd:Bool) (res:Int) (hn:n≤140737488355328)
  (h:PM w0 w M MB (.slice co n c) pv sv S sd res) (hpc:¬ S.pc<n) (hp2:S.pc≤n+65539) :
  Calls Tryz.prog 97 #[.pointer (some ⟨M,0,none⟩)] w fun e w'=>NoIn w0 e w':=by
 obtain ⟨c0,c1,c2,c3,c4,c5,c6⟩:=h.cells
 have lM:=h.m.lt
 have HH:Hid (PM w0 w M MB (.slice co n c) pv sv S sd res):=h
 clear h
 generalize S.pc=pc at *
 go_enter Tryz.func97,Tryz.ntmps97
 go_wp2
 go_quiet ((go_at_call 125;refine Calls.quiet_of_same (Load_no co n c pc 1 _ (by unfold maxLen;omega) (by omega) (by omega) (by omega))))
 go_wp2
 refine bodyPost_ret (v:=.tuple #[.agg #[.int .u8 0,.int .u32 0,.int .u32 0],.bool false]) (by simp only [results,Tryz.results97];go_simp) rfl ⟨⟨0,0,0,rfl⟩,?_⟩
 (repeat (first | exact HH.out.gr | refine grown_drew ?_ | refine grown_alloc ?_ _ | refine grown_none ?_ (grown_drewN _ _ _) | refine grown_set ?_ (HH.out.gr.size) _))
set_option maxHeartbeats 1000000 in
theorem fetch_none (w0 w:World) (M MB b off n c:Nat) (g:Nat→Int) (pv sv:Value) (S:Mst) (sd:Bool) (res:Int) (hn:n≤140737488355328) (hc:n≤c) (hg:Oct g) (hR:Row w0 .u8 b off n g)
  (h:PM w0 w M MB (.slice (some ⟨b,off,none⟩) n c) pv sv S sd res) (hpc:S.pc<n) (hs:shp (g S.pc)=none) :
  Calls Tryz.prog 97 #[.pointer (some ⟨M,0,none⟩)] w fun e w'=>NoIn w0 e w':=by
 obtain ⟨pc,sp,st,cs⟩:=S
 dsimp only at *
 obtain ⟨c0,c1,c2,c3,c4,c5,c6⟩:=h.cells
 dsimp only at c3
 have lM:=h.m.lt
 have HH:Hid (PM w0 w M MB (.slice (some ⟨b,off,none⟩) n c) pv sv ⟨pc,sp,st,cs⟩ sd res):=h
 have HS:Hid (shp (g pc)=none):=hs
 have hb:=hg pc
 have HB1:Hid (g pc=be g pc 1):=(be_one g pc).symm
 clear h hs
 have hlA:∀ k O,(Instr.lookup 163 (.map (some MB)) (.int .u8 (g pc)) true).run Tryz.prog ((((w.alloc (.cells #[.int .u8 0,.int .u32 0,.int .u32 0] 170)).drewN k).setCell ⟨w.heap.size,0,none⟩ (.int .u8 (g pc))).alloc O).drew=_:=fun k O=>look_no (HH.out.keep (by repeat (first | exact grown_refl _ _ | refine grown_drew ?_ | refine grown_alloc ?_ _ | refine grown_none ?_ (grown_drewN _ _ _) | refine grown_set ?_ (Nat.le_refl _) _))).mp HS.out
 have hlB:∀ k,(Instr.lookup 163 (.map (some MB)) (.int .u8 (g pc)) true).run Tryz.prog (((w.alloc (.cells #[.int .u8 0,.int .u32 0,.int .u32 0] 170)).drewN k).setCell ⟨w.heap.size,0,none⟩ (.int .u8 (g pc))).drew=_:=fun k=>look_no (HH.out.keep (by repeat (first | exact grown_refl _ _ | refine grown_drew ?_ | refine grown_alloc ?_ _ | refine grown_none ?_ (grown_drewN _ _ _) | refine grown_set ?_ (Nat.le_refl _) _))).mp HS.out
 go_enter Tryz.func97,Tryz.ntmps97
 go_wp2
 go_quiet ((go_at_call 125;refine Calls.quiet_of_same (Load_at w0 _ b off n c pc 1 g (g pc) _ (Or.inr (Or.inl rfl)) hn hc (by omega) hg hR (by repeat (first | exact HH.out.gr | refine grown_drew ?_ | refine grown_alloc ?_ _ | refine grown_none ?_ (grown_drewN _ _ _))) HB1.out rfl)))
 go_wp2
 go_region
 all_goals go_wp2
 refine bodyPost_ret (v:=.tuple #[.agg #[.int .u8 (g pc),.int .u32 0,.int .u32 0],.bool false]) (by simp only [results,Tryz.results97];go_simp) rfl ⟨⟨_,_,_,rfl⟩,?_⟩
 (repeat (first | exact HH.out.gr | refine grown_drew ?_ | refine grown_alloc ?_ _ | refine grown_none ?_ (grown_drewN _ _ _) | refine grown_set ?_ (HH.out.gr.size) _))
end Go.Proofs.YthbcfepbkkbjiaaGreatDoor
namespace Go.Proofs.YthbcfepbkkbjiaaGreatDoor
open Go.RowKit
set_option maxHeartbeats 1000000 in
theorem do_1 (w0 w:World) (M MB:Nat) (cv pv sv:Value) (S:Mst) (o x:Int) (h:PM w0 w M MB cv pv sv S false 0) (h8:S.sp≤8) :
  Calls Tryz.prog 99 #[.pointer (some ⟨M,0,none⟩),.agg #[.int .u8 1,.int .u32 o,.int .u32 x]] w fun e w'=>e=.returned (.tuple #[])∧∃ sv',PM w0 w' M MB cv pv sv' ⟨S.pc,S.sp+1,upd S.st S.sp x,S.cs⟩ false 0:=by
 go_enter Tryz.func99,Tryz.ntmps99
 go_wp2_with (go_at_call 127;refine (push_any w0 _ M MB cv pv sv S false 0 x (h.allo _) h8).mono ?_;rintro e w1 ⟨rfl,sv',h1⟩)
 go_end0
 exact ⟨rfl,sv',h1⟩
set_option maxHeartbeats 1000000 in
theorem do_2 (w0 w:World) (M MB:Nat) (cv pv sv:Value) (S:Mst) (o:Nat) (x:Int) (h:PM w0 w M MB cv pv sv S false 0) (h8:S.sp≤8) (ho:o≤17) :
  Calls Tryz.prog 99 #[.pointer (some ⟨M,0,none⟩),.agg #[.int .u8 2,.int .u32 o,.int .u32 x]] w fun e w'=>e=.returned (.tuple #[])∧∃ sv',PM w0 w' M MB cv pv sv' ⟨S.pc,S.sp+1,upd S.st S.sp (S.cs o),S.cs⟩ false 0:=by
 have cX:=h.cs (i:=o) (by omega)
 have lM:=h.m.lt
 have ho1:(o:Int)<18:=by omega
 go_enter Tryz.func99,Tryz.ntmps99
 have HH:Hid (PM w0 w M MB cv pv sv S false 0):=h
 clear h
 go_wp2
 go_quiet (fail)
 go_wp2_with (go_at_call 127;refine (push_any w0 _ M MB cv pv sv S false 0 (S.cs o) ((HH.out.allo _).drewN _) h8).mono ?_;rintro e w1 ⟨rfl,sv',h1⟩)
 go_end0
 exact ⟨rfl,sv',h1⟩
set_option maxHeartbeats 1000000 in
theorem do_6 (w0 w:World) (M MB:Nat) (cv:Value) (po:Option Addr) (m pc:Nat) (sv:Value) (S:Mst) (o x:Int) (h:PM w0 w M MB cv (.slice po m pc) sv S false 0) (h8:S.sp≤8) (hm:m≤2000) :
  Calls Tryz.prog 99 #[.pointer (some ⟨M,0,none⟩),.agg #[.int .u8 6,.int .u32 o,.int .u32 x]] w fun e w'=>e=.returned (.tuple #[])∧∃ sv',PM w0 w' M MB cv (.slice po m pc) sv' ⟨S.pc,S.sp+1,upd S.st S.sp m,S.cs⟩ false 0:=by
 obtain ⟨c0,c1,c2,c3,c4,c5,c6⟩:=h.cells
 have lM:=h.m.lt
 go_enter Tryz.func99,Tryz.ntmps99
 go_wp2_with (go_at_call 127;refine (push_any w0 _ M MB cv _ sv S false 0 m (h.allo _) h8).mono ?_;rintro e w1 ⟨rfl,sv',h1⟩)
 go_end0
 exact ⟨rfl,sv',h1⟩
set_option maxHeartbeats 1000000 in
theorem do_7 (w0 w:World) (M MB:Nat) (cv pv sv:Value) (S:Mst) (o:Int) (x:Nat) (h:PM w0 w M MB cv pv sv S false 0) (hx:x≤65535) (hp:S.pc≤281474976710656) :
  Calls Tryz.prog 99 #[.pointer (some ⟨M,0,none⟩),.agg #[.int .u8 7,.int .u32 o,.int .u32 x]] w fun e w'=>e=.returned (.tuple #[])∧PM w0 w' M MB cv pv sv ⟨S.pc+x,S.sp,S.st,S.cs⟩ false 0:=by
 obtain ⟨c0,c1,c2,c3,c4,c5,c6⟩:=h.cells
 obtain ⟨z3,z4,z5,z6⟩:=h.free
 have lM:=h.m.lt
 have HH:Hid (PM w0 w M MB cv pv sv S false 0):=h
 clear h
 go_enter Tryz.func99,Tryz.ntmps99
 go_wp2
 go_end0
 exact ⟨rfl,PM.allo (HH.out.setPc (S.pc+x) _ (by omega)) _⟩
set_option maxHeartbeats 1000000 in
theorem do_9 (w0 w:World) (M MB:Nat) (cv pv sv:Value) (S:Mst) (o x:Int) (h:PM w0 w M MB cv pv sv S false 0) (h1:1≤S.sp) :
  Calls Tryz.prog 99 #[.pointer (some ⟨M,0,none⟩),.agg #[.int .u8 9,.int .u32 o,.int .u32 x]] w fun e w'=>e=.returned (.tuple #[])∧∃ sv',PM w0 w' M MB cv pv sv' ⟨S.pc,S.sp-1,S.st,S.cs⟩ true (S.st (S.sp-1)):=by
 go_enter Tryz.func99,Tryz.ntmps99
 go_wp2_with (first | (go_at_call 128;refine (pop_any w0 _ M MB cv pv sv S false 0 (h.allo _) h1).mono ?_;rintro e w1 ⟨rfl,⟨sv',h2⟩,k2⟩) | (go_at_call 132;refine (stop_any w0 _ M MB cv pv sv' _ false 0 _ h2).mono ?_;rintro e w2 ⟨rfl,h3⟩))
 go_end0
 exact ⟨rfl,sv',h3⟩
theorem loc_cell {w w1:World} {I:Array Value} {t:TypeId} {M j:Nat} {v:Value} (hg:(w.alloc (.cells I t)).grownBy w1 (some M)) (lM:M<w.heap.size) (hv:I[j]?=some v):w1.cell? ⟨w.heap.size,j,none⟩=some v :=
 box_of hg (fun g e=>by cases e;exact lM) hv
set_option maxHeartbeats 1000000 in
theorem do_3 (w0 w:World) (M MB:Nat) (cv pv sv:Value) (S:Mst) (o:Nat) (x:Int) (h:PM w0 w M MB cv pv sv S false 0) (h1:1≤S.sp) (ho:o≤17) :
  Calls Tryz.prog 99 #[.pointer (some ⟨M,0,none⟩),.agg #[.int .u8 3,.int .u32 o,.int .u32 x]] w fun e w'=>e=.returned (.tuple #[])∧∃ sv',PM w0 w' M MB cv pv sv' ⟨S.pc,S.sp-1,S.st,upd S.cs o (S.st (S.sp-1))⟩ false 0:=by
 have lM:=h.m.lt
 have ho1:(o:Int)<18:=by omega
 have HH:Hid (PM w0 w M MB cv pv sv S false 0):=h
 clear h
 go_enter Tryz.func99,Tryz.ntmps99
 go_wp2
 go_region_with (go_at_call 128;refine (pop_any w0 _ M MB cv pv sv S false 0 (by repeat (first | exact HH.out | refine PM.drew ?_ | refine PM.allo ?_ _ | refine PM.drewN ?_ _)) h1).mono ?_;rintro e w1 ⟨rfl,⟨sv',h2⟩,k2⟩;have xo:w1.cell? ⟨w.heap.size,1,none⟩=some (.int .u32 o):=loc_cell (by first | exact k2 | exact grown_undrew k2) lM rfl;have cX:=h2.cs (i:=o) (by omega);have zX:=h2.m.frozen (5+o))
 all_goals go_wp2
 all_goals go_end0
 all_goals exact ⟨rfl,_,by repeat (first | exact h2.setCs o (by omega) _ | refine PM.drew ?_ | refine PM.drewN ?_ _)⟩
end Go.Proofs.YthbcfepbkkbjiaaGreatDoor
