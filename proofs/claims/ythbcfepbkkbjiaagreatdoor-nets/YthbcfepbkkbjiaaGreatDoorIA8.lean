import Derived.Laws.Tables
import Derived.Deep.WholeRow
import Derived.Great.Walk
import Derived.Test.YthbcfepbkkbjiaaGreatDoorIA2
import Derived.Test.YthbcfepbkkbjiaaGreatDoorIA6
import Derived.Test.YthbcfepbkkbjiaaGreatDoorIF5
set_option linter.unusedVariables false
set_option maxRecDepth 100000
namespace Go.Proofs.YthbcfepbkkbjiaaGreatDoor
open Go.RowKit
def Did (w0 w':World) (M MB:Nat) (cv pv:Value) (R:Res):Prop:=∃ sv' S',PM w0 w' M MB cv pv sv' S' R.done R.v∧(R.done=false→S'=R.S)
theorem did_of {w0 w':World} {M MB:Nat} {cv pv sv':Value} {S':Mst} {R:Res} {sd:Bool} {res:Int} (h:PM w0 w' M MB cv pv sv' S' sd res) (h1:R.done=sd) (h2:R.v=res) (h3:sd=false→S'=R.S):Did w0 w' M MB cv pv R :=
 ⟨sv',S',by rw [h1,h2];exact h,fun e=>h3 (by rw [← h1];exact e)⟩
theorem do_any (w0 w:World) (M MB:Nat) (cv:Value) (n:Nat) (g:Nat→Int) (po:Option Addr) (m pc':Nat) (p:Nat→Int) (sv:Value) (S:Mst) (s:Shp) (hn:n≤140737488355328) (hm:m≤2000) (hmc:m≤pc') (hg:Oct g) (hp:Oct p) (hI:Inv n S) (hf:fitB g n S=true) (hs:shp (g S.pc)=some s) (hsrc:Src w0 .u8 po m p)
  (h:PM w0 w M MB cv (.slice po m pc') sv ⟨S.pc+1+s.wh+s.nb,S.sp,S.st,S.cs⟩ false 0) :
  Calls Tryz.prog 99 #[.pointer (some ⟨M,0,none⟩),.agg #[.int .u8 (g S.pc),.int .u32 (be g (S.pc+1) s.wh),.int .u32 (be g (S.pc+1+s.wh) s.nb)]] w
   fun e w'=>e=.returned (.tuple #[])∧Did w0 w' M MB cv (.slice po m pc') (stepM g p m S):=by
 obtain ⟨f1,s',f2,f3,f4,f5,f6⟩:=fit_true hf
 have es:s'=s:=by rw [hs] at f2;cases f2;rfl
 subst es
 obtain ⟨i1,i2,i3,i4⟩:=hI
 have ob:=hg (S.pc+1)
 obtain ⟨o,ho⟩:∃ o:Nat,g (S.pc+1)=o:=⟨(g (S.pc+1)).toNat,by omega⟩
 have b1:=be_one g (S.pc+1)
 have n2:∀ k,∃ x:Nat,be g k 2=x∧x≤65535:=fun k=>by
  have:=be_bd hg k 2 (by omega)
  exact ⟨(be g k 2).toNat,by omega,by omega⟩
 rcases shp_cases hs with ⟨c,rfl⟩ | ⟨c,rfl⟩ | ⟨c,rfl⟩ | ⟨c,rfl⟩ | ⟨c,rfl⟩ | ⟨c,rfl⟩ | ⟨c,rfl⟩ | ⟨c,rfl⟩ | ⟨c,rfl⟩
 all_goals dsimp only at *
 all_goals rw [c] at f6 ⊢
 ·refine (do_1 w0 w M MB cv _ sv _ _ _ h i2).mono ?_
  rintro e w' ⟨rfl,sv',hr⟩
  refine ⟨rfl,did_of hr ?_ ?_ ?_⟩ <;> simp only [stepM,c,if_true] <;> intros <;> first | rfl | trivial
 ·rw [b1,ho]
  refine (do_2 w0 w M MB cv _ sv _ o _ h i2 (by rw [ho] at f6;simp [knw] at f6;omega)).mono ?_
  rintro e w' ⟨rfl,sv',hr⟩
  refine ⟨rfl,did_of hr ?_ ?_ ?_⟩ <;> simp only [stepM,c,ho,Int.reduceEq,if_true,if_false] <;> intros <;> first | rfl | trivial
 ·rw [b1,ho]
  refine (do_3 w0 w M MB cv _ sv _ o _ h f4 (by rw [ho] at f6;simp [knw] at f6;omega)).mono ?_
  rintro e w' ⟨rfl,sv',hr⟩
  refine ⟨rfl,did_of hr ?_ ?_ ?_⟩ <;> simp only [stepM,c,ho,Int.reduceEq,if_true,if_false] <;> intros <;> first | rfl | trivial
 ·rw [b1,ho]
  have o9:o≤9:=by rw [ho] at f6;simp [knw] at f6;omega
  have ux:U32 (S.st (S.sp-1-1)):=i3 _ (by omega)
  have uy:U32 (S.st (S.sp-1)):=i3 _ (by omega)
  cases hd:div0 o (S.st (S.sp-1)) with
  | false =>
   refine (do_4a w0 w M MB cv _ sv _ o _ h f4 i2 o9 ux uy hd).mono ?_
   rintro e w' ⟨rfl,sv',hr⟩
   dsimp only at hr
   rw [show S.sp-1-1=S.sp-2 by omega,show S.sp-2+1=S.sp-1 by omega] at hr
   refine ⟨rfl,did_of hr ?_ ?_ ?_⟩ <;> simp only [stepM,c,ho,hd,Int.reduceEq,if_true,if_false] <;> intros <;> first | rfl | trivial
  | true =>
   refine (do_4b w0 w M MB cv _ sv _ o _ h f4 i2 o9 ux uy hd).mono ?_
   rintro e w' ⟨rfl,sv',hr⟩
   refine ⟨rfl,did_of hr ?_ ?_ (fun e=>by cases e)⟩ <;> simp only [stepM,c,ho,hd,Int.reduceEq,if_true,if_false]
 ·rw [b1,ho]
  have o4:o=1∨o=2∨o=4:=by rw [ho] at f6;simp [knw] at f6;omega
  have ux:U32 (S.st (S.sp-1-1)):=i3 _ (by omega)
  have uy:U32 (S.st (S.sp-1)):=i3 _ (by omega)
  obtain ⟨X,hX,hx⟩:=nat_of ux
  obtain ⟨Y,hY,hy⟩:=nat_of uy
  have e2:S.sp-2=S.sp-1-1:=by omega
  have e3:((X:Int)+(Y:Int)).toNat=X+Y:=by omega
  by_cases hfit:X+Y+o≤m
  ·refine (do_5a w0 w M MB cv sv _ o _ po m pc' p h f4 i2 o4 X Y hX hY hx hy hm hmc hp hsrc hfit).mono ?_
   rintro e w' ⟨rfl,sv',hr⟩
   dsimp only at hr
   have hfit':((X:Int)+(Y:Int)).toNat+((o:Int)).toNat≤m:=by omega
   refine ⟨rfl,did_of hr ?_ ?_ ?_⟩ <;> simp only [stepM,c,ho,e2,hX,hY,Int.reduceEq,if_true,if_false,if_pos hfit'] <;> intros <;> (try rw [e3,show S.sp-1-1+1=S.sp-1 by omega];rfl)
  ·refine (do_5b w0 w M MB cv sv _ o _ po m pc' p h f4 i2 o4 X Y hX hY hx hy hm hfit).mono ?_
   rintro e w' ⟨rfl,sv',hr⟩
   have hfit':¬ ((X:Int)+(Y:Int)).toNat+((o:Int)).toNat≤m:=by omega
   refine ⟨rfl,did_of hr ?_ ?_ (fun e=>by cases e)⟩ <;> simp only [stepM,c,ho,e2,hX,hY,Int.reduceEq,if_true,if_false,if_neg hfit']
 ·refine (do_6 w0 w M MB cv po m pc' sv _ _ _ h i2 hm).mono ?_
  rintro e w' ⟨rfl,sv',hr⟩
  refine ⟨rfl,did_of hr ?_ ?_ ?_⟩ <;> simp only [stepM,c,Int.reduceEq,if_true,if_false] <;> intros <;> first | rfl | trivial
 ·obtain ⟨x,hx,hx2⟩:=n2 (S.pc+1+0)
  rw [hx]
  refine (do_7 w0 w M MB cv _ sv _ _ x h hx2 (by dsimp only;omega)).mono ?_
  rintro e w' ⟨rfl,hr⟩
  have hx':be g (S.pc+1) 2=x:=hx
  refine ⟨rfl,did_of hr ?_ ?_ ?_⟩ <;> simp only [stepM,c,hx',Int.reduceEq,if_true,if_false] <;> intros <;> first | rfl | trivial
 ·rw [b1,ho]
  have o3:o≤3:=by rw [ho] at f6;simp [knw] at f6;omega
  obtain ⟨x,hx,hx2⟩:=n2 (S.pc+1+1)
  rw [hx]
  have hx':be g (S.pc+2) 2=x:=hx
  have e2:S.sp-2=S.sp-1-1:=by omega
  cases hq:askv o (S.st (S.sp-1-1)) (S.st (S.sp-1)) with
  | false =>
   refine (do_8a w0 w M MB cv _ sv _ o x h f4 o3 hq).mono ?_
   rintro e w' ⟨rfl,sv',hr⟩
   refine ⟨rfl,did_of hr ?_ ?_ ?_⟩ <;> simp only [stepM,c,ho,e2,hq,Int.reduceEq,if_true,if_false] <;> intros <;> first | rfl | trivial
  | true =>
   refine (do_8b w0 w M MB cv _ sv _ o x h f4 o3 hx2 (by dsimp only;omega) hq).mono ?_
   rintro e w' ⟨rfl,sv',hr⟩
   refine ⟨rfl,did_of hr ?_ ?_ ?_⟩ <;> simp only [stepM,c,ho,e2,hq,hx',Int.reduceEq,if_true,if_false] <;> intros <;> first | rfl | trivial
 ·refine (do_9 w0 w M MB cv _ sv _ _ _ h f4).mono ?_
  rintro e w' ⟨rfl,sv',hr⟩
  refine ⟨rfl,did_of hr ?_ ?_ (fun e=>by cases e)⟩ <;> simp only [stepM,c,Int.reduceEq,if_false]
end Go.Proofs.YthbcfepbkkbjiaaGreatDoor
namespace Go.Proofs.YthbcfepbkkbjiaaGreatDoor
open Go.RowKit
theorem Load_nat (ao:Option Addr) (n c p s:Nat) (v:Int) (w:World) (hm:n≤140737488355328) (hp:p≤4611686018427387904) (hs:s≤4) (h:n<p+s) (hv:v=p) :
  Calls Tryz.prog 125 #[.slice ao n c,.int .i64 v,.int .i64 s] w fun e w'=>e=.returned (.tuple #[.int .u32 0,.bool false])∧w'=w:=by
 subst hv
 exact Load_no ao n c p s w (by unfold maxLen;omega) hp hs h
set_option maxHeartbeats 4000000 in
theorem fetch_shortA (w0 w:World) (M MB b off n c:Nat) (g:Nat→Int) (pv sv:Value) (S:Mst) (sd:Bool) (res:Int) (s:Shp) (hn:n≤140737488355328) (hc:n≤c) (hg:Oct g) (hR:Row w0 .u8 b off n g)
  (h:PM w0 w M MB (.slice (some ⟨b,off,none⟩) n c) pv sv S sd res) (hpc:S.pc<n) (hs:shp (g S.pc)=some s) (hA:n<S.pc+1+s.wh+s.nb) (hw:S.pc+1+s.wh≤n) :
  Calls Tryz.prog 97 #[.pointer (some ⟨M,0,none⟩)] w fun e w'=>NoIn w0 e w':=by
 obtain ⟨pc,sp,st,cs⟩:=S
 dsimp only at *
 obtain ⟨c0,c1,c2,c3,c4,c5,c6⟩:=h.cells
 obtain ⟨z3,z4,z5,z6⟩:=h.free
 dsimp only at c3
 obtain ⟨sz1,sz2⟩:=shp_siz hs
 obtain ⟨k4,p2,u1⟩:=shp_bd hs
 have lM:=h.m.lt
 have HH:Hid (PM w0 w M MB (.slice (some ⟨b,off,none⟩) n c) pv sv ⟨pc,sp,st,cs⟩ sd res):=h
 have HS:Hid (shp (g pc)=some s):=hs
 have hb:=hg pc
 have B1:g pc=be g pc 1:=(be_one g pc).symm
 have HB1:Hid (g pc=be g pc 1):=B1
 clear h hs B1
 have hlA:∀ k O,(Instr.lookup 163 (.map (some MB)) (.int .u8 (g pc)) true).run Tryz.prog ((((w.alloc (.cells #[.int .u8 0,.int .u32 0,.int .u32 0] 170)).drewN k).setCell ⟨w.heap.size,0,none⟩ (.int .u8 (g pc))).alloc O).drew=_:=fun k O=>(look_shape (HH.out.keep (by repeat (first | exact grown_refl _ _ | refine grown_drew ?_ | refine grown_alloc ?_ _ | refine grown_none ?_ (grown_drewN _ _ _) | refine grown_set ?_ (Nat.le_refl _) _))).mp HS.out).2
 have hlB:∀ k,(Instr.lookup 163 (.map (some MB)) (.int .u8 (g pc)) true).run Tryz.prog (((w.alloc (.cells #[.int .u8 0,.int .u32 0,.int .u32 0] 170)).drewN k).setCell ⟨w.heap.size,0,none⟩ (.int .u8 (g pc))).drew=_:=fun k=>(look_shape (HH.out.keep (by repeat (first | exact grown_refl _ _ | refine grown_drew ?_ | refine grown_alloc ?_ _ | refine grown_none ?_ (grown_drewN _ _ _) | refine grown_set ?_ (Nat.le_refl _) _))).mp HS.out).2
 have F0:=fun k1 k2 a b c v x O=>(in_cells w #[.int .u8 0,.int .u32 0,.int .u32 0] rfl 170 M lM k1 k2 a b c v x x x O).1
 have F1:=fun k1 k2 a b c v x y O=>(in_cells w #[.int .u8 0,.int .u32 0,.int .u32 0] rfl 170 M lM k1 k2 a b c v x y y O).2.1
 have F2:=fun k1 k2 a b c v x y z O=>(in_cells w #[.int .u8 0,.int .u32 0,.int .u32 0] rfl 170 M lM k1 k2 a b c v x y z O).2.2
 have W1:IntKind.i64.wrap ((pc:Int)+1)=(pc:Int)+1:=by rw [IntKind.wrap_i64];omega
 have W2:IntKind.i64.wrap ((pc:Int)+1+(s.wh:Int))=(pc:Int)+1+(s.wh:Int):=by rw [IntKind.wrap_i64];omega
 have W3:IntKind.i64.wrap ((pc:Int)+1+(s.wh:Int)+(s.nb:Int))=(pc:Int)+1+(s.wh:Int)+(s.nb:Int):=by rw [IntKind.wrap_i64];omega
 go_enter Tryz.func97,Tryz.ntmps97
 go_wp2
 go_quiet ((go_at_call 125;refine Calls.quiet_of_same (Load_at w0 _ b off n c pc 1 g (g pc) _ (Or.inr (Or.inl rfl)) hn hc (by omega) hg hR (by repeat (first | exact HH.out.gr | refine grown_drew ?_ | refine grown_alloc ?_ _ | refine grown_none ?_ (grown_drewN _ _ _))) HB1.out rfl)))
 go_wp2
 go_region
 all_goals go_wp2
 go_quiet (fail)
 go_wp2
 go_region_with (go_at_call 125;refine (Load_at w0 _ b off n c (pc+1) s.wh g (be g (pc+1) s.wh) _ sz1 hn hc (by omega) hg hR (by repeat (first | exact HH.out.gr | refine grown_drew ?_ | refine grown_alloc ?_ _ | refine grown_none ?_ (grown_drewN _ _ _) | refine grown_set ?_ (Nat.le_trans HH.out.gr.size (Nat.le_refl _)) _ | refine grown_set ?_ (Nat.le_trans HH.out.gr.size (Nat.le_succ _)) _)) rfl (by omega)).mono ?_;rintro e w1 ⟨rfl,rfl⟩)
 all_goals (first | exact ?main | refine ?main)
 go_wp2
 go_region_with (go_at_call 125;refine (Load_nat _ n c (pc+1+s.wh) s.nb _ _ hn (by omega) (by omega) (by omega) (by omega)).mono ?_;rintro e w1 ⟨rfl,rfl⟩)
 all_goals (first | exact ?main2 | refine ?main2)
 go_wp2
 have n1:w.heap.size≠M:=by omega
 have n2:w.heap.size≠MB:=by have:=HH.out.mp.lt;omega
 have n3:∀ g,sv.ownBlock=some g→g≠w.heap.size:=fun g e=>by have:=(HH.out.st.own g e).2;omega
 have n0:=HH.out.gr.size
 refine bodyPost_ret (v:=.tuple #[.agg #[.int .u8 (g pc),.int .u32 (be g (pc+1) s.wh),.int .u32 0],.bool false]) (by simp only [results,Tryz.results97];go_simp) rfl ⟨⟨_,_,_,rfl⟩,?_⟩
 have G0:=HH.out.gr
 have hMw:=HH.out.hM
 exact grown_drew (grown_set (grown_set (grown_set (grown_set (grown_set (grown_set (grown_none (grown_alloc (grown_set (grown_none (grown_alloc G0 _) (grown_drewN _ _ _)) n0 _) _) (grown_drewN _ _ _)) n0 _) n0 _) hMw _) n0 _) n0 _) n0 _)
end Go.Proofs.YthbcfepbkkbjiaaGreatDoor
namespace Go.Proofs.YthbcfepbkkbjiaaGreatDoor
open Go.RowKit
theorem Load_natb (ao:Option Addr) (n c p s:Nat) (v:Int) (w:World) (hm:n≤140737488355328) (hp:p≤4611686018427387904) (hs:s≤4) (h:n<p+s) (hv:v=p) :
  Calls Tryz.prog 125 #[.slice ao n c,.int .i64 v,.int .i64 s] w fun e w'=>e=.returned (.tuple #[.int .u32 0,.bool false])∧w'=w:=by
 subst hv
 exact Load_no ao n c p s w (by unfold maxLen;omega) hp hs h
set_option maxHeartbeats 4000000 in
theorem fetch_shortB (w0 w:World) (M MB b off n c:Nat) (g:Nat→Int) (pv sv:Value) (S:Mst) (sd:Bool) (res:Int) (s:Shp) (hn:n≤140737488355328) (hc:n≤c) (hg:Oct g) (hR:Row w0 .u8 b off n g)
  (h:PM w0 w M MB (.slice (some ⟨b,off,none⟩) n c) pv sv S sd res) (hpc:S.pc<n) (hs:shp (g S.pc)=some s) (hA:n<S.pc+1+s.wh+s.nb) (hw:n<S.pc+1+s.wh) :
  Calls Tryz.prog 97 #[.pointer (some ⟨M,0,none⟩)] w fun e w'=>NoIn w0 e w':=by
 obtain ⟨pc,sp,st,cs⟩:=S
 dsimp only at *
 obtain ⟨c0,c1,c2,c3,c4,c5,c6⟩:=h.cells
 obtain ⟨z3,z4,z5,z6⟩:=h.free
 dsimp only at c3
 obtain ⟨sz1,sz2⟩:=shp_siz hs
 obtain ⟨k4,p2,u1⟩:=shp_bd hs
 have lM:=h.m.lt
 have HH:Hid (PM w0 w M MB (.slice (some ⟨b,off,none⟩) n c) pv sv ⟨pc,sp,st,cs⟩ sd res):=h
 have HS:Hid (shp (g pc)=some s):=hs
 have hb:=hg pc
 have B1:g pc=be g pc 1:=(be_one g pc).symm
 have HB1:Hid (g pc=be g pc 1):=B1
 clear h hs B1
 have hlA:∀ k O,(Instr.lookup 163 (.map (some MB)) (.int .u8 (g pc)) true).run Tryz.prog ((((w.alloc (.cells #[.int .u8 0,.int .u32 0,.int .u32 0] 170)).drewN k).setCell ⟨w.heap.size,0,none⟩ (.int .u8 (g pc))).alloc O).drew=_:=fun k O=>(look_shape (HH.out.keep (by repeat (first | exact grown_refl _ _ | refine grown_drew ?_ | refine grown_alloc ?_ _ | refine grown_none ?_ (grown_drewN _ _ _) | refine grown_set ?_ (Nat.le_refl _) _))).mp HS.out).2
 have hlB:∀ k,(Instr.lookup 163 (.map (some MB)) (.int .u8 (g pc)) true).run Tryz.prog (((w.alloc (.cells #[.int .u8 0,.int .u32 0,.int .u32 0] 170)).drewN k).setCell ⟨w.heap.size,0,none⟩ (.int .u8 (g pc))).drew=_:=fun k=>(look_shape (HH.out.keep (by repeat (first | exact grown_refl _ _ | refine grown_drew ?_ | refine grown_alloc ?_ _ | refine grown_none ?_ (grown_drewN _ _ _) | refine grown_set ?_ (Nat.le_refl _) _))).mp HS.out).2
 have F0:=fun k1 k2 a b c v x O=>(in_cells w #[.int .u8 0,.int .u32 0,.int .u32 0] rfl 170 M lM k1 k2 a b c v x x x O).1
 have F1:=fun k1 k2 a b c v x y O=>(in_cells w #[.int .u8 0,.int .u32 0,.int .u32 0] rfl 170 M lM k1 k2 a b c v x y y O).2.1
 have F2:=fun k1 k2 a b c v x y z O=>(in_cells w #[.int .u8 0,.int .u32 0,.int .u32 0] rfl 170 M lM k1 k2 a b c v x y z O).2.2
 have W1:IntKind.i64.wrap ((pc:Int)+1)=(pc:Int)+1:=by rw [IntKind.wrap_i64];omega
 have W2:IntKind.i64.wrap ((pc:Int)+1+(s.wh:Int))=(pc:Int)+1+(s.wh:Int):=by rw [IntKind.wrap_i64];omega
 have W3:IntKind.i64.wrap ((pc:Int)+1+(s.wh:Int)+(s.nb:Int))=(pc:Int)+1+(s.wh:Int)+(s.nb:Int):=by rw [IntKind.wrap_i64];omega
 go_enter Tryz.func97,Tryz.ntmps97
 go_wp2
 go_quiet ((go_at_call 125;refine Calls.quiet_of_same (Load_at w0 _ b off n c pc 1 g (g pc) _ (Or.inr (Or.inl rfl)) hn hc (by omega) hg hR (by repeat (first | exact HH.out.gr | refine grown_drew ?_ | refine grown_alloc ?_ _ | refine grown_none ?_ (grown_drewN _ _ _))) HB1.out rfl)))
 go_wp2
 go_region
 all_goals go_wp2
 go_quiet (fail)
 go_wp2
 go_region_with (go_at_call 125;refine (Load_natb _ n c (pc+1) s.wh _ _ hn (by omega) (by omega) (by omega) (by omega)).mono ?_;rintro e w1 ⟨rfl,rfl⟩)
 all_goals (first | exact ?main | refine ?main)
 go_wp2
 go_region_with (go_at_call 125;refine (Load_natb _ n c (pc+1+s.wh) s.nb _ _ hn (by omega) (by omega) (by omega) (by omega)).mono ?_;rintro e w1 ⟨rfl,rfl⟩)
 all_goals (first | exact ?main2 | refine ?main2)
 go_wp2
 have n1:w.heap.size≠M:=by omega
 have n2:w.heap.size≠MB:=by have:=HH.out.mp.lt;omega
 have n3:∀ g,sv.ownBlock=some g→g≠w.heap.size:=fun g e=>by have:=(HH.out.st.own g e).2;omega
 have n0:=HH.out.gr.size
 refine bodyPost_ret (v:=.tuple #[.agg #[.int .u8 (g pc),.int .u32 (0),.int .u32 0],.bool false]) (by simp only [results,Tryz.results97];go_simp) rfl ⟨⟨_,_,_,rfl⟩,?_⟩
 have G0:=HH.out.gr
 have hMw:=HH.out.hM
 exact grown_drew (grown_set (grown_set (grown_set (grown_set (grown_set (grown_set (grown_none (grown_alloc (grown_set (grown_none (grown_alloc G0 _) (grown_drewN _ _ _)) n0 _) _) (grown_drewN _ _ _)) n0 _) n0 _) hMw _) n0 _) n0 _) n0 _)
end Go.Proofs.YthbcfepbkkbjiaaGreatDoor
namespace Go.Proofs.YthbcfepbkkbjiaaGreatDoor
open Go.RowKit
theorem wpList_build_eq {P:Program} {ops:Array Oper} {rest:List Oper} {o:Oper} {a:Act} {w:World} {Q:Exit→Act→World→Prop} (hg:o.guard=none) (t:TypeId) (parts:Array (Nat × Operand)) (ho:o.op=.build t parts) (cells:Array Value)
  (hf:P.built t (parts.map fun (i,x)=>(i,a.eval x)).toList=some cells)
  (h:wpList P ops Q rest (a.put o.dst (.agg cells)) w):wpList P ops Q (o::rest) a w :=
 wpList_build hg t parts ho (by rw [hf];rfl) (by rw [hf];exact h)
theorem Tryz.sizeMachine:(Tryz.prog.info? 168).map (·.size)=some 25:=by kernel_rfl
def mcells (co:Option Addr) (n c:Nat) (po:Option Addr) (m pc B:Nat):Array Value:=#[.slice co n c,.slice po m pc,.map (some B),.int .i64 0,.slice none 0 0,.int .u32 0,.int .u32 0,.int .u32 0,.int .u32 0,.int .u32 0,.int .u32 0,.int .u32 0,.int .u32 0,.int .u32 0,.int .u32 0,.int .u32 0,.int .u32 0,.int .u32 0,.int .u32 0,.int .u32 0,.int .u32 0,.int .u32 0,.int .u32 0,.bool false,.int .u32 0]
def zcells:Array Value:=#[.slice none 0 0,.slice none 0 0,.map none,.int .i64 0,.slice none 0 0,.int .u32 0,.int .u32 0,.int .u32 0,.int .u32 0,.int .u32 0,.int .u32 0,.int .u32 0,.int .u32 0,.int .u32 0,.int .u32 0,.int .u32 0,.int .u32 0,.int .u32 0,.int .u32 0,.int .u32 0,.int .u32 0,.int .u32 0,.int .u32 0,.bool false,.int .u32 0]
theorem mcells_one (co:Option Addr) (n c:Nat) (po:Option Addr) (m pc B:Nat):(mcells co n c po m pc B).all (·.oneCell')=true:=by simp [mcells,Value.oneCell']
theorem Tryz.zeroMachine:(Tryz.prog.info? 168).map (fun i=>(i.zero,i.size))=some (some (.agg zcells),25):=by kernel_rfl
theorem alloc_machine (w:World) (ρ:Operand→Value) (o:Oper) (ho:o.op=.alloc 168):(execOp ρ o).run Tryz.prog w=.ok (.value (.pointer (some ⟨w.heap.size,0,none⟩))) (w.alloc (.cells zcells 168)):=by
 have hz:=(zero_of_info (P:=Tryz.prog) Tryz.zeroMachine).1
 simp [execOp,ho,Instr.alloc,hz,newVar,newRow,Value.cells,Result.andThen]
theorem mcells_row (co:Option Addr) (n c:Nat) (po:Option Addr) (m pc B:Nat) (j:Nat) (hj:j<25):(mcells co n c po m pc B).getD j .nilFunc=prow (.slice co n c) (.slice po m pc) B 0 (.slice none 0 0) (fun _=>0) false 0 j:=by
 match j,hj with
 | 0,_=>rfl
 | 1,_=>rfl
 | 2,_=>rfl
 | 3,_=>rfl
 | 4,_=>rfl
 | 5,_=>rfl
 | 6,_=>rfl
 | 7,_=>rfl
 | 8,_=>rfl
 | 9,_=>rfl
 | 10,_=>rfl
 | 11,_=>rfl
 | 12,_=>rfl
 | 13,_=>rfl
 | 14,_=>rfl
 | 15,_=>rfl
 | 16,_=>rfl
 | 17,_=>rfl
 | 18,_=>rfl
 | 19,_=>rfl
 | 20,_=>rfl
 | 21,_=>rfl
 | 22,_=>rfl
 | 23,_=>rfl
 | 24,_=>rfl
 | k+25,h=>exact absurd h (by omega)
theorem fit_noin {g:Nat→Int} {n:Nat} {S:Mst} (h:¬ S.pc<n∨(S.pc<n∧(shp (g S.pc)=none∨∃ s,shp (g S.pc)=some s∧n<S.pc+1+s.wh+s.nb))):fitB g n S=false:=by
 rcases h with h | ⟨h,h1 | ⟨s,h1,h2⟩⟩
 ·exact fit_end h
 ·exact fit_none h1
 ·rw [fit_some h h1,decide_eq_false (by omega)];rfl
theorem fit_in {g:Nat→Int} {n:Nat} {S:Mst} (h:¬ (¬ S.pc<n∨(S.pc<n∧(shp (g S.pc)=none∨∃ s,shp (g S.pc)=some s∧n<S.pc+1+s.wh+s.nb)))):S.pc<n∧∃ s,shp (g S.pc)=some s∧S.pc+1+s.wh+s.nb≤n:=by
 by_cases h1:S.pc<n
 ·refine ⟨h1,?_⟩
  cases e:shp (g S.pc) with
  | none=>exact absurd (Or.inr ⟨h1,Or.inl e⟩) h
  | some s =>
   refine ⟨s,rfl,?_⟩
   by_cases h2:S.pc+1+s.wh+s.nb≤n
   ·exact h2
   ·exact absurd (Or.inr ⟨h1,Or.inr ⟨s,e,by omega⟩⟩) h
 ·exact absurd (Or.inl h1) h
theorem fetch_no (w0 w:World) (M MB:Nat) (co:Option Addr) (n c:Nat) (g:Nat→Int) (pv sv:Value) (S:Mst) (sd:Bool) (res:Int) (hn:n≤140737488355328) (hc:n≤c) (hg:Oct g) (hs:Src w0 .u8 co n g)
  (h:PM w0 w M MB (.slice co n c) pv sv S sd res) (hpc:S.pc≤n+65539) (hno:¬ S.pc<n∨(S.pc<n∧(shp (g S.pc)=none∨∃ s,shp (g S.pc)=some s∧n<S.pc+1+s.wh+s.nb))) :
  Calls Tryz.prog 97 #[.pointer (some ⟨M,0,none⟩)] w fun e w'=>NoIn w0 e w':=by
 rcases hno with h1 | ⟨h1,h2⟩
 ·exact fetch_end w0 w M MB co n c pv sv S sd res hn h h1 hpc
 ·obtain ⟨b,off,rfl,hrow⟩:=hs (by omega)
  rcases h2 with h2 | ⟨s,h2,h3⟩
  ·exact fetch_none w0 w M MB b off n c g pv sv S sd res hn hc hg hrow h h1 h2
  ·by_cases hw:S.pc+1+s.wh≤n
   ·exact fetch_shortA w0 w M MB b off n c g pv sv S sd res s hn hc hg hrow h h1 h2 h3 hw
   ·exact fetch_shortB w0 w M MB b off n c g pv sv S sd res s hn hc hg hrow h h1 h2 h3 (by omega)
theorem step_v {g:Nat→Int} {n:Nat} {p:Nat→Int} {m:Nat} {S:Mst} (hf:fitB g n S=true) (hd:(stepM g p m S).done=false):(stepM g p m S).v=0:=by
 obtain ⟨f1,s,f2,f3,f4,f5,f6⟩:=fit_true hf
 rcases shp_cases f2 with ⟨c,rfl⟩ | ⟨c,rfl⟩ | ⟨c,rfl⟩ | ⟨c,rfl⟩ | ⟨c,rfl⟩ | ⟨c,rfl⟩ | ⟨c,rfl⟩ | ⟨c,rfl⟩ | ⟨c,rfl⟩
 all_goals simp only [stepM,c] at hd ⊢
 all_goals simp only [Int.reduceEq,if_true,if_false] at hd ⊢
 ·split <;> rfl
 ·cases hd
theorem pm_new {w0 w1:World} {cv pv:Value} {MB:Nat} (hb:BMap w1 MB smap) (hB:w0.heap.size≤MB) (hg:w0.grownBy w1 none) (arr:Array Value) (ha:arr.size=25) (hv:∀ j,j<25→arr.getD j .nilFunc=prow cv pv MB 0 (.slice none 0 0) (fun _=>0) false 0 j) :
  PM w0 (w1.alloc (.cells arr 168)) w1.heap.size MB cv pv (.slice none 0 0) S0 false 0:=by
 have hl:=hb.lt
 have B:=blk_new w1 arr 168
 rw [ha] at B
 exact ⟨grown_alloc hg _,hg.size,hB,by omega,B.congr hv,out_nil _ _ _ _ _,fun g e=>(by cases e),hb.keep (World.grownBy_alloc w1 _ none) (by simp)⟩
set_option maxHeartbeats 2000000 in
theorem sexec_any (co:Option Addr) (n c:Nat) (g:Nat→Int) (po:Option Addr) (m pc:Nat) (p:Nat→Int) (w:World) (hn:n≤140737488355328) (hc:n≤c) (hm:m≤2000) (hmc:m≤pc) (hg:Oct g) (hp:Oct p) (hs:Src w .u8 co n g) (hq:Src w .u8 po m p) :
  Calls Tryz.prog 65 #[.slice co n c,.slice po m pc] w fun e w'=>e=.returned (.tuple #[.int .u32 (execR g n p m).1,.int .i64 (execR g n p m).2.1,.bool ((execR g n p m).2.2 == 0)])∧w.grownBy w' none:=by
 obtain ⟨R,hR⟩:∃ R,R=execR g n p m:=⟨_,rfl⟩
 rw [← hR]
 have HR:Hid (execM g n p m (65536-0) 0 S0=R):=(execR_start g n p m).trans hR.symm
 clear hR
 go_enter Tryz.func65,Tryz.ntmps65
 go_wp2_with (first | (go_at_call 96;refine (shapes_any _).mono ?_;rintro e w1 ⟨rfl,hb1,hg1⟩) | (refine wpList_build_eq rfl 168 _ rfl (mcells co n c po m pc w.heap.size) (by kernel_rfl) ?_;refine Go.Great.wpList_allocTo rfl _ rfl (.pointer (some ⟨w1.heap.size,0,none⟩)) (.cells zcells 168) (alloc_machine w1 _ _ rfl) ?_;refine wpList_store_row rfl 168 _ _ rfl w1.heap.size (mcells co n c po m pc w.heap.size) rfl rfl 168 zcells (heap_top _ _ _ rfl) Tryz.sizeMachine rfl (mcells_one _ _ _ _ _ _ _) ?_;rw [World.setRow_alloc_new]))
 go_loopw [15] (fun i wr=>∃ (k:Nat) (sv:Value) (S:Mst),k≤65536∧i=.int .i64 k∧PM w wr w1.heap.size w.heap.size (.slice co n c) (.slice po m pc) sv S false 0∧Inv n S∧Hid (execM g n p m (65536-k) k S=R)) (fun i _=>65536-(intOf i).toNat)
 case atStart=>exact ⟨0,_,S0,by omega,rfl,pm_new hb1 (Nat.le_refl _) hg1 _ rfl (mcells_row co n c po m pc w.heap.size),inv0 n,HR⟩
 case round =>
  clear HR
  obtain ⟨k,sv,S,hk,rfl,hM,hI,hX⟩:=hrel
  by_cases hlt:k<65536
  ·have hlt':(k:Int)<65536:=by omega
   by_cases hno:¬ S.pc<n∨(S.pc<n∧(shp (g S.pc)=none∨∃ s,shp (g S.pc)=some s∧n<S.pc+1+s.wh+s.nb))
   ·have HE:Hid (R=(0,k,9)):=exec_no hlt hX.out (fit_noin hno)
    have HN:Hid (Calls Tryz.prog 97 #[.pointer (some ⟨w1.heap.size,0,none⟩)] wr fun e w'=>NoIn w e w'):=fetch_no w wr _ _ co n c g _ sv S false 0 hn hc hg hs hM hI.pc hno
    clear hno hX hlt
    go_wp2_with (go_at_call 97;refine HN.out.mono ?_;rintro e w2 ⟨⟨v1,v2,v3,rfl⟩,hg2⟩)
    go_ret3
    exact ⟨by rw [HE.out];rfl,grown_alloc hg2 _⟩
   ·obtain ⟨f1,s,hsh,f3⟩:=fit_in hno
    obtain ⟨b,off,rfl,hrow⟩:=hs (by omega)
    have HS:Hid (shp (g S.pc)=some s):=hsh
    have eF:=fit_some (n:=n) f1 hsh
    rw [decide_eq_true f3,Bool.true_and] at eF
    have bo:0≤be g (S.pc+1) s.wh:=(be_u32 hg _ _ (by have:=(shp_bd hsh).1;omega)).1
    have bo1:s.wh=0∨s.wh=1:=by rcases shp_cases hsh with ⟨_,rfl⟩ | ⟨_,rfl⟩ | ⟨_,rfl⟩ | ⟨_,rfl⟩ | ⟨_,rfl⟩ | ⟨_,rfl⟩ | ⟨_,rfl⟩ | ⟨_,rfl⟩ | ⟨_,rfl⟩ <;> simp
    have KN:knw (g S.pc) (be g (S.pc+1) s.wh)=knw (g S.pc) (g (S.pc+1)):=by
     rcases bo1 with e | e
     ·rcases shp_cases hsh with ⟨c1,rfl⟩ | ⟨c1,rfl⟩ | ⟨c1,rfl⟩ | ⟨c1,rfl⟩ | ⟨c1,rfl⟩ | ⟨c1,rfl⟩ | ⟨c1,rfl⟩ | ⟨c1,rfl⟩ | ⟨c1,rfl⟩ <;> first | (rw [c1];rfl) | cases e
     ·rw [e,be_one]
    rw [← KN] at eF
    have sp8:=hI.sp
    cases hf:fitB g n S with
    | false =>
     have HE:Hid (R=(0,k,9)):=exec_no hlt hX.out hf
     have HF:Hid ((decide (s.po≤S.sp) && decide (S.sp-s.po+s.pu≤8) && knw (g S.pc) (be g (S.pc+1) s.wh))=false):=(by rw [← eF];exact hf)
     clear hno hX hlt hf eF KN hsh
     go_wp2_with (first | (go_at_call 97;refine (fetch_ok w _ _ _ b off n c g _ sv S false 0 s hn hc hg hrow hM f1 HS.out f3).mono ?_;rintro e w2 ⟨rfl,h2⟩) | (go_at_call 98;refine (pfits_any w _ _ _ _ _ sv _ false 0 _ _ _ s (h2.allo _) sp8 HS.out bo).mono ?_;dsimp only;rw [HF.out];rintro e w3 ⟨rfl,hg3⟩))
     go_ret3
     exact ⟨by rw [HE.out];rfl,grown_trans (h2.allo _).gr hg3⟩
    | true =>
     have HF:Hid ((decide (s.po≤S.sp) && decide (S.sp-s.po+s.pu≤8) && knw (g S.pc) (be g (S.pc+1) s.wh))=true):=(by rw [← eF];exact hf)
     have HFt:Hid (fitB g n S=true):=hf
     have HI:Hid (Inv n (stepM g p m S).S):=step_inv hg hp hm hI hf
     cases hd:(stepM g p m S).done with
     | true =>
      have HE:Hid (R=((stepM g p m S).v,k+1,0)):=exec_stop hlt hX.out hf hd
      have HD:Hid ((stepM g p m S).done=true):=hd
      clear hno hX hlt hf eF KN hsh hd
      go_wp2_with (first | (go_at_call 97;refine (fetch_ok w _ _ _ b off n c g _ sv S false 0 s hn hc hg hrow hM f1 HS.out f3).mono ?_;rintro e w2 ⟨rfl,h2⟩) | (go_at_call 98;refine (pfits_any w _ _ _ _ _ sv _ false 0 _ _ _ s (h2.allo _) sp8 HS.out bo).mono ?_;dsimp only;rw [HF.out];rintro e w3 ⟨rfl,hg3⟩;obtain ⟨x0,x1,x2,_,_,_⟩:=three (box_heap hg3)) | (go_at_call 99;refine (do_any w _ _ _ _ n g po m pc p sv S s hn hm hmc hg hp hI HFt.out HS.out hq ((h2.allo _).keep hg3)).mono ?_;rintro e w4 ⟨rfl,sv',S',hP,hS⟩;rw [HD.out] at hP hS;obtain ⟨d0,d1,d2,d3,d4,d5,d6⟩:=hP.cells))
      go_ret3
      exact ⟨by rw [HE.out];rfl,hP.gr⟩
     | false =>
      have HE:Hid (execM g n p m (65536-(k+1)) (k+1) (stepM g p m S).S=R):=exec_go hlt hX.out hf hd
      have HD:Hid ((stepM g p m S).done=false):=hd
      clear hno hX hlt hf eF KN hsh hd
      go_wp2_with (first | (go_at_call 97;refine (fetch_ok w _ _ _ b off n c g _ sv S false 0 s hn hc hg hrow hM f1 HS.out f3).mono ?_;rintro e w2 ⟨rfl,h2⟩) | (go_at_call 98;refine (pfits_any w _ _ _ _ _ sv _ false 0 _ _ _ s (h2.allo _) sp8 HS.out bo).mono ?_;dsimp only;rw [HF.out];rintro e w3 ⟨rfl,hg3⟩;obtain ⟨x0,x1,x2,_,_,_⟩:=three (box_heap hg3)) | (go_at_call 99;refine (do_any w _ _ _ _ n g po m pc p sv S s hn hm hmc hg hp hI HFt.out HS.out hq ((h2.allo _).keep hg3)).mono ?_;rintro e w4 ⟨rfl,sv',S',hP,hS⟩;rw [HD.out] at hP hS;obtain ⟨d0,d1,d2,d3,d4,d5,d6⟩:=hP.cells))
      have eS:S'=(stepM g p m S).S:=by first | exact hS rfl | exact hS trivial
      subst eS
      have hv:(stepM g p m S).v=0:=step_v HFt.out HD.out
      rw [hv] at hP
      go_roundw
      case rel=>exact ⟨k+1,sv',_,by omega,by go_num,hP,HI.out,HE⟩
      case measure=>simp [intOf];omega
  ·have hke:k=65536:=by omega
   subst hke
   have HE:Hid (R=(0,65536,9)):=exec_end hX.out
   clear hX
   go_wp2
   go_ret3
   exact ⟨by rw [HE.out];rfl,hM.gr⟩
end Go.Proofs.YthbcfepbkkbjiaaGreatDoor
