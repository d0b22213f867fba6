import Derived.Deep.RegionHeld3
import Derived.Deep.DrawnRows
import Derived.Deep.Cut
import Derived.Test.YthbcfepbkkbjiaaGreatDoorI3
import Derived.Test.YthbcfepbkkbjiaaGreatDoorI2
set_option maxRecDepth 100000
namespace Go.Proofs.YthbcfepbkkbjiaaGreatDoor
open Go.RowKit
theorem rdecode_row (b off n c:Nat) (g:Nat→Int) (w:World) (hn:1≤n) (hn2:n≤256) (hg:Oct g) (h:Row w .u8 b off (8*n) g) :
  Calls Tryz.prog 46 #[.slice (some ⟨b,off,none⟩) (8*n) c] w fun e w'=>∃ B cap,e=.returned (.tuple #[.slice (some ⟨B,0,none⟩) n cap,.int .i64 0])∧w.grownBy w' none∧Row w' .i64 B 0 (4*n) (decs g):=by
 refine (rdecode_good b off n c g w hn hn2 hg h).mono ?_
 rintro e w' ⟨v,rfl,hg1,ho⟩
 obtain ⟨yo,yc,rfl,ho⟩:=ho
 rcases ho with ⟨_,h0,_⟩ | ⟨B,rfl,_,hb,_⟩
 ·omega
 ·exact ⟨B,yc,rfl,hg1,fun j hj=>by rw [Nat.zero_add];exact hb.cell (by omega)⟩
set_option maxHeartbeats 2000000 in
theorem rcheck_good (b off n c:Nat) (g:Nat→Int) (w:World) (hn:1≤n) (hn2:n≤256) (hg:Oct g) (h:Row w .u8 b off (8*n) g) :
  Calls Tryz.prog 17 #[.slice (some ⟨b,off,none⟩) (8*n) c] w fun e w'=>∃ (E:Int) (p:Nat),e=.returned (.tuple #[.int .i64 E,.int .i64 p])∧Spec (decs g) n E p∧w.grownBy w' none:=by
 have hq:=decs_num hg
 obtain ⟨q,hqe⟩:∃ q,q=decs g:=⟨_,rfl⟩
 rw [← hqe] at hq ⊢
 have HQ:Hid (q=decs g):=hqe
 clear hqe
 go_enter Tryz.func17,Tryz.ntmps17
 go_wp2_with (go_at_call 46;refine (rdecode_row _ _ _ _ g _ hn hn2 hg h).mono ?_;rintro e w1 ⟨B,cap,rfl,G1,hR⟩;rw [← HQ.out] at hR)
 clear h
 go_loopw [5,6] (fun _ i wr=>∃ k:Nat,k≤n∧i=.int .i64 k∧w.grownBy wr none∧Row wr .i64 B 0 (4*n) q∧Hid (∀ j,j<k→wrong q n j=0)) (fun _ i _=>n-(intOf i).toNat)
 case atStart=>exact ⟨0,by omega,rfl,G1,hR,fun j hj=>by omega⟩
 case round =>
  clear hR G1
  obtain ⟨k,hk,rfl,hgr,hR,hno⟩:=hrel
  by_cases hlt:k<n
  ·by_cases hw:wrong q n k=0
   ·have t1:(wrong q n k != 0)=false:=by simp [hw]
    have HW:Hid (wrong q n k=0):=hw
    clear hw
    go_wp2_with (go_at_call 47;refine (wrong_any _ _ _ _ _ q _ hlt (by omega) hq hR).mono ?_;rintro e w2 ⟨rfl,hg2⟩)
    go_roundw
    case rel=>exact ⟨k+1,by omega,by go_num,grown_trans hgr hg2,hR.keep hg2 (by simp),fun j hj=>by
     by_cases e:j=k
     ·subst e;exact HW.out
     ·exact hno.out j (by omega)⟩
    case measure=>simp [intOf];omega
   ·have t1:(wrong q n k != 0)=true:=by simp [hw]
    have HW:Hid (wrong q n k≠0):=hw
    clear hw
    go_wp2_with (go_at_call 47;refine (wrong_any _ _ _ _ _ q _ hlt (by omega) hq hR).mono ?_;rintro e w2 ⟨rfl,hg2⟩)
    go_ret2
    exact ⟨_,k,rfl,Or.inl ⟨hlt,HW.out,hno.out,rfl⟩,grown_trans hgr hg2⟩
  ·have hke:k=n:=by omega
   subst hke
   obtain ⟨wo,hwo⟩:∃ x,x=wr:=⟨_,rfl⟩
   subst hwo
   obtain ⟨c0,c1,c2,c3⟩:=hR.insn (show k-1<k by omega)
   rw [Nat.zero_add] at c0 c1 c2 c3
   have e1:((k-1:Nat):Int)=(k:Int)-1:=by omega
   by_cases hl:(kd (q (4*(k-1)))).kind=12
   ·have t1:((kd (q (4*(k-1)))).kind != 12)=false:=by simp [hl]
    have HL:Hid ((kd (q (4*(k-1)))).kind=12):=hl
    have hin:Hid (∀ i,i<k→∀ t,t<(nx q i).length→0≤(nx q i).getD t 0∧(nx q i).getD t 0≤k):=nx_in hq hno.out
    clear hl
    go_wp2_with (go_at_call 48;refine (kind_at _ _).mono ?_;rintro e w2 ⟨rfl,hg2⟩)
    have G2:=grown_alloc (grown_trans hgr hg2) (.cells #[.int .i64 (kd (q (4*(k-1)))).code,.int .i64 (kd (q (4*(k-1)))).kind,.int .i64 (kd (q (4*(k-1)))).n,.bool (kd (q (4*(k-1)))).x,.int .i64 (kd (q (4*(k-1)))).o] 84)
    have R2:=(hR.keep hg2 (by simp)).alloc (.cells #[.int .i64 (kd (q (4*(k-1)))).code,.int .i64 (kd (q (4*(k-1)))).kind,.int .i64 (kd (q (4*(k-1)))).n,.bool (kd (q (4*(k-1)))).x,.int .i64 (kd (q (4*(k-1)))).o] 84)
    clear c0 c1 c2 c3 hR t1
    go_loopw [9] (fun i wr=>∃ j:Nat,j≤k∧i=.int .i64 j∧w.grownBy wr none∧Row wr .i64 B 0 (4*k) q∧Hid (∀ i,i<j→¬ bad q i)) (fun i _=>k-(intOf i).toNat)
    case atStart=>exact ⟨0,by omega,rfl,G2,R2,fun i hi=>by omega⟩
    case round =>
     clear G2 R2 hgr hg2
     obtain ⟨j,hj,rfl,hgr2,hR2,hnb⟩:=hrel
     by_cases hlt2:j<k
     ·obtain ⟨d0,d1,d2,d3⟩:=hR2.insn hlt2
      rw [Nat.zero_add] at d0 d1 d2 d3
      by_cases hk3:(kd (q (4*j))).kind=3
      ·have t3:((kd (q (4*j))).kind == 3)=true:=by simp [hk3]
       cases hth:there q (q (4*j+3)) j j with
       | false =>
        have HB:Hid (¬ bad q j):=fun hb=>by rw [hb.2] at hth;cases hth
        clear hk3
        go_wp2_with (first | (go_at_call 48;refine (kind_at _ _).mono ?_;rintro e w3 ⟨rfl,hg3⟩;have c3':=hg3.cell d3 (by simp);have blt:=World.block_lt_of_cell? w3 _ c3';have G3:=grown_alloc (grown_trans hgr2 hg3) (.cells #[.int .i64 (kd (q (4*j))).code,.int .i64 (kd (q (4*j))).kind,.int .i64 (kd (q (4*j))).n,.bool (kd (q (4*j))).x,.int .i64 (kd (q (4*j))).o] 84);have R3:=(hR2.keep hg3 (by simp)).alloc (.cells #[.int .i64 (kd (q (4*j))).code,.int .i64 (kd (q (4*j))).kind,.int .i64 (kd (q (4*j))).n,.bool (kd (q (4*j))).x,.int .i64 (kd (q (4*j))).o] 84)) | (go_at_call 49;refine (unwritten_any _ _ _ _ _ _ q _ hlt2 (by omega) hq R3 hin.out).mono ?_;rintro e w4 ⟨rfl,hg4⟩))
        go_roundw
        case rel=>exact ⟨j+1,by omega,by go_num,grown_trans G3 hg4,R3.keep hg4 (by simp),fun i hi=>by
         by_cases e:i=j
         ·subst e;exact HB.out
         ·exact hnb.out i (by omega)⟩
        case measure=>simp [intOf];omega
       | true =>
        have HB:Hid (bad q j):=⟨hk3,hth⟩
        clear hk3
        go_wp2_with (first | (go_at_call 48;refine (kind_at _ _).mono ?_;rintro e w3 ⟨rfl,hg3⟩;have c3':=hg3.cell d3 (by simp);have blt:=World.block_lt_of_cell? w3 _ c3';have G3:=grown_alloc (grown_trans hgr2 hg3) (.cells #[.int .i64 (kd (q (4*j))).code,.int .i64 (kd (q (4*j))).kind,.int .i64 (kd (q (4*j))).n,.bool (kd (q (4*j))).x,.int .i64 (kd (q (4*j))).o] 84);have R3:=(hR2.keep hg3 (by simp)).alloc (.cells #[.int .i64 (kd (q (4*j))).code,.int .i64 (kd (q (4*j))).kind,.int .i64 (kd (q (4*j))).n,.bool (kd (q (4*j))).x,.int .i64 (kd (q (4*j))).o] 84)) | (go_at_call 49;refine (unwritten_any _ _ _ _ _ _ q _ hlt2 (by omega) hq R3 hin.out).mono ?_;rintro e w4 ⟨rfl,hg4⟩))
        go_ret2
        exact ⟨8,j,rfl,Or.inr ⟨hno.out,Or.inr ⟨HL.out,Or.inl ⟨hlt2,HB.out,hnb.out,rfl⟩⟩⟩,grown_trans G3 hg4⟩
      ·have t3:((kd (q (4*j))).kind == 3)=false:=by simp [hk3]
       have HB:Hid (¬ bad q j):=fun hb=>hk3 hb.1
       clear hk3
       go_wp2_with (first | (go_at_call 48;refine (kind_at _ _).mono ?_;rintro e w3 ⟨rfl,hg3⟩;have c3':=hg3.cell d3 (by simp);have blt:=World.block_lt_of_cell? w3 _ c3';have G3:=grown_alloc (grown_trans hgr2 hg3) (.cells #[.int .i64 (kd (q (4*j))).code,.int .i64 (kd (q (4*j))).kind,.int .i64 (kd (q (4*j))).n,.bool (kd (q (4*j))).x,.int .i64 (kd (q (4*j))).o] 84);have R3:=(hR2.keep hg3 (by simp)).alloc (.cells #[.int .i64 (kd (q (4*j))).code,.int .i64 (kd (q (4*j))).kind,.int .i64 (kd (q (4*j))).n,.bool (kd (q (4*j))).x,.int .i64 (kd (q (4*j))).o] 84)) | fail)
       go_roundw
       case rel=>exact ⟨j+1,by omega,by go_num,G3,R3,fun i hi=>by
        by_cases e:i=j
        ·subst e;exact HB.out
        ·exact hnb.out i (by omega)⟩
       case measure=>simp [intOf];omega
     ·have hje:j=k:=by omega
      subst hje
      go_wp2
      go_ret2
      exact ⟨0,0,rfl,Or.inr ⟨hno.out,Or.inr ⟨HL.out,Or.inr ⟨hnb.out,rfl,rfl⟩⟩⟩,hgr2⟩
   ·have t1:((kd (q (4*(k-1)))).kind != 12)=true:=by simp [hl]
    have HL:Hid ((kd (q (4*(k-1)))).kind≠12):=hl
    clear hl
    go_wp2_with (go_at_call 48;refine (kind_at _ _).mono ?_;rintro e w2 ⟨rfl,hg2⟩)
    go_ret2
    exact ⟨7,k-1,by rw [e1];rfl,Or.inr ⟨hno.out,Or.inl ⟨HL.out,rfl,rfl⟩⟩,grown_alloc (grown_trans hgr hg2) _⟩
theorem rcheck_bad (ao:Option Addr) (n c:Nat) (w:World) (hm:n≤maxLen) (hn:badSize n) :
  Calls Tryz.prog 17 #[.slice ao n c] w fun e w'=>e=.returned (.tuple #[.int .i64 1,.int .i64 0])∧w'=w:=by
 go_enter Tryz.func17,Tryz.ntmps17
 go_wp2_with (go_at_call 46;refine (rdecode_bad _ _ _ _ hm hn).mono ?_;rintro e w1 ⟨rfl,rfl⟩)
 go_ret2
 exact ⟨rfl,rfl⟩
theorem rcheck_any (ao:Option Addr) (n c:Nat) (g:Nat→Int) (w:World) (hm:n≤maxLen) (hg:Oct g) (h:Src w .u8 ao n g) :
  Calls Tryz.prog 17 #[.slice ao n c] w fun e w'=>∃ (E:Int) (p:Nat),e=.returned (.tuple #[.int .i64 E,.int .i64 p])∧Chk g n E p∧w.grownBy w' none:=by
 by_cases hbad:badSize n
 ·refine (rcheck_bad ao n c w hm hbad).mono ?_
  rintro e w' ⟨rfl,rfl⟩
  exact ⟨1,0,rfl,Or.inl ⟨hbad,rfl,rfl⟩,grown_refl _ _⟩
 ·obtain ⟨m,hm8⟩:∃ m,n=8*m:=⟨n/8,by unfold badSize at hbad;omega⟩
  subst hm8
  have hmm:1≤m∧m≤256:=by unfold badSize at hbad;omega
  obtain ⟨b,off,rfl,hR⟩:=h (by omega)
  refine (rcheck_good b off m c g w hmm.1 hmm.2 hg hR).mono ?_
  rintro e w' ⟨E,p,rfl,hs,hg1⟩
  exact ⟨E,p,rfl,Or.inr ⟨hbad,by rw [show 8*m/8=m by omega];exact hs⟩,hg1⟩
end Go.Proofs.YthbcfepbkkbjiaaGreatDoor
namespace Go.Proofs.YthbcfepbkkbjiaaGreatDoor
open Go.RowKit
attribute [local go_sem ↓] Go.wp_at_zero Go.wp_at_succ
def I64 (c:Int):Prop:=-9223372036854775808≤c∧c≤9223372036854775807
theorem ret_int' {k:IntKind} {a b:Int} (h:a=b):Ending.returned (.int k a)=.returned (.int k b):=by rw [h]
theorem codes_fun (f:Nat→Int) (L k j:Nat) (hj:j<(L+1)*1):(if j<L*1 then ints .i64 f j else #[Value.int .i64 (k:Int)].getD (j-L*1) .nilFunc)=ints .i64 (fun j=>if j<L then f j else (k:Int)) j:=by
 unfold ints
 by_cases h:j<L
 ·rw [if_pos (by omega)];simp [h]
 ·rw [if_neg (by omega),show j-L*1=0 by omega];simp [h]
theorem pick_any (c n:Int) (w:World) (hc:I64 c) (hn:1≤n) (hn2:n≤4294967296) :
  Calls Tryz.prog 69 #[.int .i64 c,.int .i64 n] w fun e w'=>(∃ r:Nat,e=.returned (.int .i64 (r:Int))∧(r:Int)<n)∧w'=w:=by
 obtain ⟨h1,h2⟩:=hc
 by_cases h0:c<0
 ·go_enter Tryz.func69,Tryz.ntmps69
  go_wp2
  go_ret
  have a1:=Int.emod_nonneg (-(c+1)) (show n≠0 by omega)
  have a2:=Int.emod_lt_of_pos (-(c+1)) (show 0<n by omega)
  have a3:-((c+1).tmod n)=-(c+1)%n:=by rw [← Int.neg_tmod,Int.tmod_eq_emod_of_nonneg (by omega)]
  exact ⟨⟨(-(c+1)%n).toNat,ret_int' (by omega),by omega⟩,rfl⟩
 ·go_enter Tryz.func69,Tryz.ntmps69
  go_wp2
  go_ret
  have a1:=Int.emod_nonneg c (show n≠0 by omega)
  have a2:=Int.emod_lt_of_pos c (show 0<n by omega)
  exact ⟨⟨(c%n).toNat,ret_int' (by omega),by omega⟩,rfl⟩
theorem Tryz.infoInt:(Tryz.prog.info? 3).map (fun i=>(i.zero,i.size,i.bytes))=some (some (.int .i64 0),1,8):=by kernel_rfl
set_option maxHeartbeats 1000000 in
theorem codes_any (w:World) :
  Calls Tryz.prog 68 #[] w fun e w'=>∃ (ao:Option Addr) (L cc:Nat) (f:Nat→Int),e=.returned (.slice ao L cc)∧1≤L∧L≤256∧Src w' .i64 ao L f∧w.grownBy w' none:=by
 obtain ⟨i0,hi,hz0,hz1,hz2⟩:=info_parts Tryz.infoInt
 go_enter Tryz.func68,Tryz.ntmps68
 go_wp2
 go_loopw [1,2] (fun v i wr=>∃ (k L:Nat) (f:Nat→Int),k≤256∧i=.int .i64 k∧L≤k∧(0<k→1≤L)∧w.grownBy wr none∧Out wr w.heap.size 3 1 v L (ints .i64 f)) (fun _ i _=>256-(intOf i).toNat)
 case atStart=>exact ⟨0,0,fun _=>0,by omega,rfl,by omega,by omega,grown_refl _ _,out_nil _ _ _ _ _⟩
 case round =>
  obtain ⟨k,L,f,hk,rfl,hL,hL1,hgr,ho⟩:=hrel
  by_cases hlt:k<256
  ·cases hok:okk (k:Int) with
   | false =>
    have hk0:0<k:=by
     by_cases e:k=0
     ·subst e;cases hok
     ·omega
    go_wp2_with (go_at_call 48;refine (kind_at _ _).mono ?_;rintro e w1 ⟨rfl,hg1⟩)
    go_roundw
    case rel=>exact ⟨k+1,L,f,by omega,by go_num,by omega,fun _=>hL1 hk0,grown_alloc (grown_trans hgr hg1) _,(ho.keep hg1 (by simp)).alloc _⟩
    case measure=>simp [intOf];omega
   | true =>
    go_wp2_with (first | (go_at_call 48;refine (kind_at _ _).mono ?_;rintro e w1 ⟨rfl,hg1⟩;have G1:=grown_alloc (grown_trans hgr hg1) (.cells #[.int .i64 (kd (k:Int)).code,.int .i64 (kd (k:Int)).kind,.int .i64 (kd (k:Int)).n,.bool (kd (k:Int)).x,.int .i64 (kd (k:Int)).o] 84);have ho1:=(ho.keep hg1 (by simp)).alloc (.cells #[.int .i64 (kd (k:Int)).code,.int .i64 (kd (k:Int)).kind,.int .i64 (kd (k:Int)).n,.bool (kd (k:Int)).x,.int .i64 (kd (k:Int)).o] 84)) | (at_builtin;refine wpList_append_out _ w rfl (.tmp 15) (.tmp 17) 66 rfl 3 i0 (.int .i64 0) 1 8 Tryz.underlying66 hi hz0 hz1 hz2 rfl (by decide) _ _ _ rfl (ho1.alloc _) (grown_alloc G1 _) _ 1 1 _ _ rfl (heap_top _ _ _ (by simp)) rfl (by simp [Value.oneCell']) (by decide) (by unfold maxLen;omega) (by omega) ?_;intro g2 p2 w2 ho2 hg2 _))
    go_roundw
    case rel=>exact ⟨k+1,L+1,fun j=>if j<L then f j else (k:Int),by omega,by go_num,by omega,fun _=>by omega,hg2,ho2.congr fun j hj=>codes_fun f L k j hj⟩
    case measure=>simp [intOf];omega
  ·have hke:k=256:=by omega
   subst hke
   go_wp2
   go_ret
   obtain ⟨ao,cc,rfl,h2⟩:=ho
   refine ⟨ao,L,cc,f,rfl,hL1 (by omega),hL,fun hp=>?_,hgr⟩
   rcases h2 with ⟨_,h0,_⟩ | ⟨B,rfl,_,hb,_⟩
   ·omega
   ·exact ⟨B,0,rfl,fun j hj=>by rw [Nat.zero_add];exact hb.cell (by omega)⟩
end Go.Proofs.YthbcfepbkkbjiaaGreatDoor
namespace Go.Proofs.YthbcfepbkkbjiaaGreatDoor
open Go.RowKit
attribute [local go_sem ↓] Go.wp_at_zero Go.wp_at_succ
theorem fit_box {w w1:World} {o1 o2:Obj} (h:((w.alloc o1).alloc o2).grownBy w1 none):w1.heap[w.heap.size]?=some o1∧w1.heap[w.heap.size+1]?=some o2:=by
 constructor
 ·rw [h.block w.heap.size (by simp;omega) (by simp),Below.heap_alloc _ _ _ (by simp)]
  exact heap_top _ _ _ rfl
 ·rw [h.block (w.heap.size+1) (by simp) (by simp)]
  exact heap_top _ _ _ (by simp)
theorem four {wr:World} {B:Nat} {a b c d:Value} {e:TypeId} (h:wr.heap[B]?=some (.cells #[a,b,c,d] e (0,0))) :
  (wr.cell? ⟨B,0,none⟩=some a∧wr.cell? ⟨B,1,none⟩=some b∧wr.cell? ⟨B,2,none⟩=some c∧wr.cell? ⟨B,3,none⟩=some d)∧∀ j,wr.frozen? ⟨B,j,none⟩=false :=
 ⟨⟨cell_of_row wr B 0 _ e (0,0) h,cell_of_row wr B 1 _ e (0,0) h,cell_of_row wr B 2 _ e (0,0) h,cell_of_row wr B 3 _ e (0,0) h⟩,fun j=>by simp [World.frozen?,h]⟩
theorem fit_grown {w w1:World} (h:w.grownBy w1 none) (v1 v2 v3 v4:Value) (o:Obj) :
  w.grownBy (((((w1.setCell ⟨w.heap.size+1,0,none⟩ v1).setCell ⟨w.heap.size+1,1,none⟩ v2).setCell ⟨w.heap.size+1,2,none⟩ v3).setCell ⟨w.heap.size+1,3,none⟩ v4).alloc o).drew none :=
 grown_drew (grown_alloc (grown_set (grown_set (grown_set (grown_set h (Nat.le_succ _) _) (Nat.le_succ _) _) (Nat.le_succ _) _) (Nat.le_succ _) _) _)
set_option maxHeartbeats 4000000 in
theorem fit_any (a b c d:Int) (n:Nat) (w:World) (ha:I64 a) (hb:I64 b) (hc:I64 c) (hd:I64 d) (hn:1≤n) (hn2:n≤200) :
  Calls Tryz.prog 41 #[.agg #[.int .i64 a,.int .i64 b,.int .i64 c,.int .i64 d],.int .i64 n] w fun e w'=>(∃ a b c d:Int,e=.returned (.agg #[.int .i64 a,.int .i64 b,.int .i64 c,.int .i64 d]))∧w.grownBy w' none:=by
 go_enter Tryz.func41,Tryz.ntmps41
 go_wp2_with (go_at_call 68;refine (codes_any _).mono ?_;rintro e w1 ⟨ao,L,cc,f,rfl,hL1,hL2,hs,hg1⟩)
 obtain ⟨CB,coff,rfl,hR⟩:=hs (by omega)
 obtain ⟨k1,k2⟩:=fit_box hg1
 obtain ⟨⟨x0,x1,x2,x3⟩,_⟩:=four k1
 obtain ⟨⟨y0,y1,y2,y3⟩,fy⟩:=four k2
 have hSG:∀ w',w1.grownBy w' none→Hid (w'.cell? ⟨w.heap.size,0,none⟩=some (.int .i64 a)∧w'.cell? ⟨w.heap.size,1,none⟩=some (.int .i64 b)∧w'.cell? ⟨w.heap.size,2,none⟩=some (.int .i64 c)∧w'.cell? ⟨w.heap.size,3,none⟩=some (.int .i64 d)∧∀ j,j<L→w'.cell? ⟨CB,coff+j,none⟩=some (.int .i64 (f j))) :=
  fun w' hw=>⟨hw.cell x0 (by simp),hw.cell x1 (by simp),hw.cell x2 (by simp),hw.cell x3 (by simp),hR.keep hw (by simp)⟩
 have G0:=grown_refl w1 none
 have f0:=fy 0
 have f1:=fy 1
 have f2:=fy 2
 have f3:=fy 3
 clear fy
 have hz:w.heap.size+1<w1.heap.size:=by have:=alloc_lt hg1;simp at this;omega
 have G1:=grown_trans (grown_alloc (grown_alloc (grown_refl w none) _) _) hg1
 clear hg1
 go_cut [6] from 7 (fun y wc=>∃ (v0:Int) (r1 r2 r:Nat),y=.pointer (some ⟨w1.heap.size,0,none⟩)∧(r:Int)<4294967296∧wc=(w1.alloc (.cells #[.int .i64 v0,.int .i64 r1,.int .i64 r2,.int .i64 r] 63)).drew)
 case first =>
  go_region_held3 (fun w'=>w'.cell? ⟨w.heap.size,0,none⟩=some (.int .i64 a)∧w'.cell? ⟨w.heap.size,1,none⟩=some (.int .i64 b)∧w'.cell? ⟨w.heap.size,2,none⟩=some (.int .i64 c)∧w'.cell? ⟨w.heap.size,3,none⟩=some (.int .i64 d)∧∀ j,j<L→w'.cell? ⟨CB,coff+j,none⟩=some (.int .i64 (f j)))
   (first | assumption | exact (hSG _ (grown_drew G0)).out | exact (hSG _ (grown_drew (grown_alloc G0 _))).out)
   ((go_at_call 69;refine (pick_any _ _ _ (by assumption) ?_ ?_).mono ?_;omega;omega;rintro e w2 ⟨⟨r,rfl,hr⟩,rfl⟩;(first | (have hrL:r<L:=by omega) | skip)))
  all_goals
   rename_i r0 hr0 r1 hr1 r2 hr2 hh
   clear hh hSG
   go_wp2
   go_meet
   case rel=>exact ⟨f r0,r1,r2,r,rfl,hr,rfl⟩
 case rest =>
  obtain ⟨v0,r1,r2,r,rfl,hr,rfl⟩:=hcut
  clear hSG hR hs k1 k2 x0 x1 x2 x3 G0 ha hb hc hd
  by_cases e96:v0=96
  ·subst e96
   go_wp2
   refine bodyPost_ret (v:=.agg #[.int .i64 96,.int .i64 r1,.int .i64 r2,.int .i64 ((r:Int)%16)]) (by simp [results,Tryz.results41,go_sem,y0,y1,y2,y3,hz]) rfl ⟨⟨_,_,_,_,rfl⟩,?_⟩
   exact fit_grown G1 _ _ _ _ _
  by_cases e97:v0=97
  ·subst e97
   go_wp2
   refine bodyPost_ret (v:=.agg #[.int .i64 97,.int .i64 r1,.int .i64 r2,.int .i64 ((r:Int)%16)]) (by simp [results,Tryz.results41,go_sem,y0,y1,y2,y3,hz]) rfl ⟨⟨_,_,_,_,rfl⟩,?_⟩
   exact fit_grown G1 _ _ _ _ _
  by_cases e2:v0=2
  ·subst e2
   go_wp2
   refine bodyPost_ret (v:=.agg #[.int .i64 2,.int .i64 r1,.int .i64 r2,.int .i64 ((r:Int)%16)]) (by simp [results,Tryz.results41,go_sem,y0,y1,y2,y3,hz]) rfl ⟨⟨_,_,_,_,rfl⟩,?_⟩
   exact fit_grown G1 _ _ _ _ _
  by_cases e3:v0=3
  ·subst e3
   go_wp2
   refine bodyPost_ret (v:=.agg #[.int .i64 3,.int .i64 r1,.int .i64 r2,.int .i64 ((r:Int)%16)]) (by simp [results,Tryz.results41,go_sem,y0,y1,y2,y3,hz]) rfl ⟨⟨_,_,_,_,rfl⟩,?_⟩
   exact fit_grown G1 _ _ _ _ _
  by_cases e52:v0=52
  ·subst e52
   go_wp2
   refine bodyPost_ret (v:=.agg #[.int .i64 52,.int .i64 r1,.int .i64 r2,.int .i64 ((r:Int)+1-(r:Int)/2147483648)]) (by simp [results,Tryz.results41,go_sem,y0,y1,y2,y3,hz]) rfl ⟨⟨_,_,_,_,rfl⟩,?_⟩
   exact fit_grown G1 _ _ _ _ _
  by_cases e148:v0=148
  ·subst e148
   go_wp2
   refine bodyPost_ret (v:=.agg #[.int .i64 148,.int .i64 r1,.int .i64 r2,.int .i64 ((r:Int)+1-(r:Int)/2147483648)]) (by simp [results,Tryz.results41,go_sem,y0,y1,y2,y3,hz]) rfl ⟨⟨_,_,_,_,rfl⟩,?_⟩
   exact fit_grown G1 _ _ _ _ _
  by_cases e100:v0=100
  ·subst e100
   go_wp2
   refine bodyPost_ret (v:=.agg #[.int .i64 100,.int .i64 r1,.int .i64 r2,.int .i64 ((r:Int)%32)]) (by simp [results,Tryz.results41,go_sem,y0,y1,y2,y3,hz]) rfl ⟨⟨_,_,_,_,rfl⟩,?_⟩
   exact fit_grown G1 _ _ _ _ _
  by_cases e116:v0=116
  ·subst e116
   go_wp2
   refine bodyPost_ret (v:=.agg #[.int .i64 116,.int .i64 r1,.int .i64 r2,.int .i64 ((r:Int)%32)]) (by simp [results,Tryz.results41,go_sem,y0,y1,y2,y3,hz]) rfl ⟨⟨_,_,_,_,rfl⟩,?_⟩
   exact fit_grown G1 _ _ _ _ _
  by_cases e5:v0=5
  ·subst e5
   go_wp2
   refine bodyPost_ret (v:=.agg #[.int .i64 5,.int .i64 r1,.int .i64 r2,.int .i64 ((r:Int)%(n:Int))]) (by simp [results,Tryz.results41,go_sem,y0,y1,y2,y3,hz]) rfl ⟨⟨_,_,_,_,rfl⟩,?_⟩
   exact fit_grown G1 _ _ _ _ _
  have t96:(v0 == 96)=false:=by simp [e96]
  have t97:(v0 == 97)=false:=by simp [e97]
  have t2:(v0 == 2)=false:=by simp [e2]
  have t3:(v0 == 3)=false:=by simp [e3]
  have t52:(v0 == 52)=false:=by simp [e52]
  have t148:(v0 == 148)=false:=by simp [e148]
  have t100:(v0 == 100)=false:=by simp [e100]
  have t116:(v0 == 116)=false:=by simp [e116]
  have t5:(v0 == 5)=false:=by simp [e5]
  clear e96 e97 e2 e3 e52 e148 e100 e116 e5
  go_wp2
  refine bodyPost_ret (v:=.agg #[.int .i64 v0,.int .i64 r1,.int .i64 r2,.int .i64 r]) (by simp [results,Tryz.results41,go_sem,y0,y1,y2,y3,hz]) rfl ⟨⟨_,_,_,_,rfl⟩,?_⟩
  exact fit_grown G1 _ _ _ _ _
end Go.Proofs.YthbcfepbkkbjiaaGreatDoor
namespace Go.Proofs.YthbcfepbkkbjiaaGreatDoor
open Go.RowKit
attribute [local go_sem ↓] Go.wp_at_zero Go.wp_at_succ
def ins4 (f:Nat→Int) (L:Nat) (a b c d:Int):Nat→Int:=fun j=>if j<L*4 then f j else ([a,b,c,d]:List Int).getD (j-L*4) 0
theorem ins4_fun (f:Nat→Int) (L:Nat) (a b c d:Int) (j:Nat) (hj:j<(L+1)*4):(if j<L*4 then ints .i64 f j else #[Value.int .i64 a,.int .i64 b,.int .i64 c,.int .i64 d].getD (j-L*4) .nilFunc)=ints .i64 (ins4 f L a b c d) j:=by
 unfold ints ins4
 by_cases h:j<L*4
 ·rw [if_pos h,if_pos h]
 ·rw [if_neg h,if_neg h]
  obtain ⟨i,hi⟩:∃ i,j-L*4=i:=⟨_,rfl⟩
  rw [hi]
  have:i<4:=by omega
  match i,this with
  | 0,_=>rfl
  | 1,_=>rfl
  | 2,_=>rfl
  | 3,_=>rfl
theorem out_srcI {w:World} {base:Nat} {e:TypeId} {ao:Option Addr} {n cap:Nat} {f:Nat→Int} (h:Out w base e 4 (.slice ao n cap) n (ints .i64 f)):SrcI w ao n f:=fun hp=>by
 obtain ⟨ao',cap',h1,h2⟩:=h
 cases h1
 rcases h2 with ⟨_,h0,_⟩ | ⟨B,rfl,_,hb,_⟩
 ·omega
 ·exact ⟨B,0,rfl,fun j hj=>by rw [Nat.zero_add];exact hb.cell (by omega)⟩
theorem fit_at (a b c d nI:Int) (w:World) (ha:I64 a) (hb:I64 b) (hc:I64 c) (hd:I64 d) (hn:1≤nI) (hn2:nI≤200) :
  Calls Tryz.prog 41 #[.agg #[.int .i64 a,.int .i64 b,.int .i64 c,.int .i64 d],.int .i64 nI] w fun e w'=>(∃ a b c d:Int,e=.returned (.agg #[.int .i64 a,.int .i64 b,.int .i64 c,.int .i64 d]))∧w.grownBy w' none:=by
 obtain ⟨n,rfl⟩:=Int.eq_ofNat_of_zero_le (show 0≤nI by omega)
 exact fit_any a b c d n w ha hb hc hd (by omega) (by omega)
end Go.Proofs.YthbcfepbkkbjiaaGreatDoor
