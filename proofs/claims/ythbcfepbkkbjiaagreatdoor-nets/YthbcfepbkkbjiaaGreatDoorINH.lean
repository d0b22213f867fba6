import Derived.Test.YthbcfepbkkbjiaaGreatDoorINF
import Derived.Test.YthbcfepbkkbjiaaGreatDoorINE
import Derived.Test.YthbcfepbkkbjiaaGreatDoorI2
set_option linter.unusedSimpArgs false
set_option linter.unusedVariables false
set_option maxRecDepth 100000
namespace Go.Proofs.YthbcfepbkkbjiaaGreatDoor
open Go.RowKit
set_option maxHeartbeats 1000000 in
theorem spoiled_any (H n:Nat) (f:Nat→Value) (w:World) (hn:n≤140737488355328) (hb:Blk w H 5 (n+4) (n+4) f) :
  Calls Tryz.prog 54 #[.slice (some ⟨H,0,none⟩) n (n+4)] w fun e w'=>e=.returned (.tuple #[])∧w.grownBy w' (some H):=by
 go_enter Tryz.func54,Tryz.ntmps54
 go_wp2
 go_loopw [3] (fun i wr=>∃ (k:Nat) (g:Nat→Value),k≤n+4∧i=.int .i64 k∧w.grownBy wr (some H)∧Blk wr H 5 (n+4) (n+4) g) (fun i _=>n+4-(intOf i).toNat)
 case atStart=>exact ⟨0,f,Nat.zero_le _,rfl,grown_refl _ _,hb⟩
 case round =>
  obtain ⟨k,g,hk,rfl,hgr,hbk⟩:=hrel
  by_cases hlt:k<n+4
  ·have e1:=hbk.cell (j:=k) (by omega)
   have e2:=hbk.frozen k
   have R:=hbk.set' (j:=k) (by omega) (.int .u8 99)
   have t1:(k:Int)<(n:Int)+4:=by omega
   clear hb hbk
   go_wp2
   go_roundw
   case rel=>exact ⟨k+1,_,by omega,by go_num,grown_trans hgr (grown_setCell _ _ _),R⟩
   case measure=>simp [intOf];omega
  ·have t1:¬ ((k:Int)<(n:Int)+4):=by omega
   go_wp2
   go_end0
   exact ⟨rfl,hgr⟩
def prc (p r O:Nat):Nat→Value:=fun j=>if j=0 then .pointer (some ⟨p,0,none⟩) else if j=1 then .pointer (some ⟨r,0,none⟩) else .pointer (some ⟨O,0,none⟩)
theorem pad_src {w:World} {H n:Nat} {e:TypeId} {N m:Nat} {g:Nat→Int} (h:Blk w H e N m (ints .u8 (pad g n))) (hm:n≤m:=by omega):Src w .u8 (some ⟨H,0,none⟩) n g:=fun _=>⟨H,0,rfl,fun j hj=>by
 rw [Nat.zero_add,h.cell (by omega)]
 simp [ints,pad,hj]⟩
theorem held_src3 {w:World} {e:TypeId} {a:Option Addr} {l c:Nat} {g:Nat→Int} (h:Held w e 1 a l c (ints .u8 g)):Src w .u8 a l g:=fun h0=>by
 rcases h with ⟨_,h1,_⟩ | ⟨B,rfl,hb,_⟩
 ·omega
 ·exact ⟨B,0,rfl,fun j hj=>by rw [Nat.zero_add];exact hb.cell (by omega)⟩
def Pl (w0 w:World) (own:Nat→Nat) (a b p r O:Nat) (T:Nat→Ab) (t:Nat) (w':World):Prop:=∃ own' T' t',PSt w0 w' own' a b p r O T' T' t'∧PStep w w' own own' a b∧t'≤t+1∧∀ i,i<8→(T' i).d≤(T i).d+1
theorem PStep.blk {w w':World} {own own':Nat→Nat} {a b pb:Nat} {e:TypeId} {N n:Nat} {f:Nat→Value} (h:PStep w w' own own' a b) (L:Lb a b) (hb:Blk w pb e N n f) (h6:own pb=6):Blk w' pb e N n f :=
 hb.same (h.same pb hb.lt (by rw [h6];exact fun e=>L.a6 e.symm) (by rw [h6];exact fun e=>L.b6 e.symm) (by rw [h6];decide))
theorem pr_cells {w:World} {pb p r O:Nat} (h:Blk w pb 53 3 3 (prc p r O)):w.cell? ⟨pb,0,none⟩=some (.pointer (some ⟨p,0,none⟩))∧w.cell? ⟨pb,1,none⟩=some (.pointer (some ⟨r,0,none⟩))∧w.cell? ⟨pb,2,none⟩=some (.pointer (some ⟨O,0,none⟩)) :=
 ⟨h.cell (j:=0) (by omega),h.cell (j:=1) (by omega),h.cell (j:=2) (by omega)⟩
theorem PSt.bs {w0 w:World} {own:Nat→Nat} {a b p r O t:Nat} {T S:Nat→Ab} (h:PSt w0 w own a b p r O T S t) (L:Lb a b) {a1 a2 a3 a4:Addr} {tb:TypeId} {pv:Value} (hS:Sent w0 a1 a2 a3 a4) (hl:Laid w0 tb pv):Bs w0 w (fun k=>own k=a) a1 a2 a3 a4 tb pv :=
 ⟨hS,hl,h.ow.g,fun k hk=>h.ow.lo k (by rw [hk];exact L.a0)⟩
theorem detR_d {s:Int} {T:Nat→Ab} {E:Int} {T':Nat→Ab} (h:DetR s T E T'):∀ i,i<8→(T' i).d≤(T i).d+1:=fun i hi=>by
 rcases h with ⟨_,_,rfl⟩ | ⟨_,_,⟨_,_,rfl⟩ | ⟨_,_,rfl⟩⟩
 ·omega
 ·omega
 ·by_cases e:i=s.toNat
  ·rw [e,updT_at];show (T s.toNat).d≤_;omega
  ·rw [updT_ne _ _ _ e];omega
theorem attR_d {s:Int} {g:Nat→Int} {n:Nat} {T:Nat→Ab} {E:Int} {T':Nat→Ab} (h:AttR s g n T E T'):∀ i,i<8→(T' i).d≤(T i).d+1:=fun i hi=>by
 rcases h with ⟨_,_,rfl⟩ | ⟨_,_,⟨_,_,rfl⟩ | ⟨_,_,rfl⟩⟩
 ·omega
 ·omega
 ·by_cases e:i=s.toNat
  ·rw [e,updT_at];show (T s.toNat).d≤_;omega
  ·rw [updT_ne _ _ _ e];omega
theorem recR_d {s:Int} {T:Nat→Ab} {E:Int} {l:Nat} {g:Nat→Int} {T':Nat→Ab} (h:RecR s T E l g T'):∀ i,i<8→(T' i).d≤(T i).d+1:=fun i hi=>by
 rcases h with ⟨_,_,_,_,rfl⟩ | ⟨_,_,⟨_,_,_,_,rfl⟩ | ⟨_,_,_,rfl⟩⟩
 ·omega
 ·omega
 ·by_cases e:i=s.toNat
  ·rw [e,updT_at];show (T s.toNat).d≤_;omega
  ·rw [updT_ne _ _ _ e];omega
theorem frm_d (T:Nat→Ab) (p:Nat→Int) (m:Nat):∀ i,i<8→(frmT T p m i).d≤(T i).d+1:=fun i hi=>by
 unfold frmT
 split
 ·unfold Ab.offer
  split
  ·omega
  ·split
   ·exact Nat.le_refl _
   ·show (T i).d≤(T i).d+1;omega
 ·omega
def OpS (w:World) (pb p r O B:Nat) (N:Int) (lo:Option Addr) (ln lc:Nat) (fit fast:Bool) (bo:Option Addr) (bn bc:Nat):Prop :=
 w.cell? ⟨pb,0,none⟩=some (.pointer (some ⟨p,0,none⟩))∧w.cell? ⟨pb,1,none⟩=some (.pointer (some ⟨r,0,none⟩))∧w.cell? ⟨pb,2,none⟩=some (.pointer (some ⟨O,0,none⟩)) ∧
 w.cell? ⟨B,1,none⟩=some (.int .i64 N)∧w.cell? ⟨B,3,none⟩=some (.slice lo ln lc)∧w.cell? ⟨B,4,none⟩=some (.bool fit)∧w.cell? ⟨B,5,none⟩=some (.bool fast)∧w.cell? ⟨B,6,none⟩=some (.slice bo bn bc)
theorem ops_new {w0 w:World} {own:Nat→Nat} {a b p r O pb t:Nat} {T:Nat→Ab} (L:Lb a b) (hP:PSt w0 w own a b p r O T T t) (hb:Blk w pb 53 3 3 (prc p r O)) (h6:own pb=6) (K N:Int) (net:Value) (lo:Option Addr) (ln lc:Nat) (fit fast:Bool) (bo:Option Addr) (bn bc:Nat) :
  ∀ w' own',PStep (w.alloc (.cells #[.int .i64 K,.int .i64 N,net,.slice lo ln lc,.bool fit,.bool fast,.slice bo bn bc] 55)) w' own own' a b→OpS w' pb p r O w.heap.size N lo ln lc fit fast bo bn bc:=fun w' own' hs=>by
 have g:=World.grownBy_alloc w (.cells #[.int .i64 K,.int .i64 N,net,.slice lo ln lc,.bool fit,.bool fast,.slice bo bn bc] 55) none
 obtain ⟨c0,c1,c2⟩:=pr_cells (hs.blk L (hb.keep g (by simp)) h6)
 have h0:own w.heap.size=0:=Classical.byContradiction fun hn=>by have:=hP.ow.hi _ hn;omega
 have e:=hs.same w.heap.size (by simp) (by rw [h0];exact fun e=>L.a0 e.symm) (by rw [h0];exact fun e=>L.b0 e.symm) (by rw [h0];decide)
 have c:∀ j,w'.cell? ⟨w.heap.size,j,none⟩=#[.int .i64 K,.int .i64 N,net,.slice lo ln lc,.bool fit,.bool fast,.slice bo bn bc][j]?:=fun j=>by rw [cell_same e,World.cell?_alloc_new]
 exact ⟨c0,c1,c2,c 1,c 3,c 4,c 5,c 6⟩
theorem pstep_in {w0 w wA w':World} {own own':Nat→Nat} {a b:Nat} (L:Lb a b) (h:Ow w0 w own) (g:w.grownBy wA none) (hs:PStep wA w' own own' a b):PStep w w' own own' a b:=((pstep_refl h a b).keep g).trans hs L
section
variable {w0 w:World} {own:Nat→Nat} {a b p r O pb t:Nat} {T:Nat→Ab} {a1 a2 a3 a4:Addr} {tb:TypeId} {pv:Value}
set_option maxHeartbeats 1000000 in
theorem play_none (L:Lb a b) (hP:PSt w0 w own a b p r O T T t) (K N:Int) (net:Value) (lo:Option Addr) (ln lc:Nat) (fit fast:Bool) (bo:Option Addr) (bn bc:Nat) (hK:K<1∨5<K) :
  Calls Tryz.prog 24 #[.pointer (some ⟨pb,0,none⟩),.agg #[.int .i64 K,.int .i64 N,net,.slice lo ln lc,.bool fit,.bool fast,.slice bo bn bc]] w fun e w'=>e=.returned (.bool true)∧Pl w0 w own a b p r O T t w':=by
 have HP:Hid (PSt w0 w own a b p r O T T t):=hP
 have k1:(K == 1)=false:=by simp;omega
 have k2:(K == 2)=false:=by simp;omega
 have k3:(K == 3)=false:=by simp;omega
 have k4:(K == 4)=false:=by simp;omega
 have k5:(K == 5)=false:=by simp;omega
 clear hP
 go_enter Tryz.func24,Tryz.ntmps24
 go_wp2
 go_ret
 have g:=World.grownBy_alloc w (.cells #[.int .i64 K,.int .i64 N,net,.slice lo ln lc,.bool fit,.bool fast,.slice bo bn bc] 55) none
 exact ⟨rfl,own,T,t,HP.out.keep g,(pstep_refl HP.out.ow a b).keep g,by omega,fun _ _=>by omega⟩
set_option maxHeartbeats 2000000 in
theorem play_detach (L:Lb a b) (hP:PSt w0 w own a b p r O T T t) (hb:Blk w pb 53 3 3 (prc p r O)) (h6:own pb=6) (hS:Sent w0 a1 a2 a3 a4) (hl:Laid w0 tb pv) (N:Int) (net:Value) (lo:Option Addr) (ln lc:Nat) (fit fast:Bool) (bo:Option Addr) (bn bc:Nat) :
  Calls Tryz.prog 24 #[.pointer (some ⟨pb,0,none⟩),.agg #[.int .i64 2,.int .i64 N,net,.slice lo ln lc,.bool fit,.bool fast,.slice bo bn bc]] w fun e w'=>e=.returned (.bool true)∧Pl w0 w own a b p r O T t w':=by
 have HO:=ops_new L hP hb h6 2 N net lo ln lc fit fast bo bn bc
 have g:=World.grownBy_alloc w (.cells #[.int .i64 2,.int .i64 N,net,.slice lo ln lc,.bool fit,.bool fast,.slice bo bn bc] 55) none
 obtain ⟨wA,hwA⟩:∃ wA,wA=w.alloc (.cells #[.int .i64 2,.int .i64 N,net,.slice lo ln lc,.bool fit,.bool fast,.slice bo bn bc] 55):=⟨_,rfl⟩
 rw [← hwA] at HO g
 have PA:=hP.keep g
 have SA:=pstep_refl PA.ow a b
 have zA:∀ k,wA.heap.size≤k→own k=0:=fun k hk=>Classical.byContradiction fun hn=>by have:=PA.ow.hi k hn;omega
 have HIn:Hid (∀ w' own',PStep wA w' own own' a b→PStep w w' own own' a b):=fun w' own'=>pstep_in L hP.ow g
 have HOp:Hid (∀ w' own',PStep wA w' own own' a b→OpS w' pb p r O w.heap.size N lo ln lc fit fast bo bn bc):=HO
 have H1:Hid (∀ wB,wA.grownBy wB none→Calls Tryz.prog 55 #[.pointer (some ⟨p,0,none⟩),.int .i64 N] wB fun e w'=>∃ E T' own',e=.returned (.int .i64 E)∧DetR N T E T'∧PSt w0 w' own' a b p r O T' T t∧PStep wA w' own own' a b):=fun wB gB=>by
  have PB:=PA.keep gB
  refine (ndetach PB.n (PB.bs L hS hl) N).mono ?_
  rintro e w' ⟨E,T',hD,rfl,hN,hF⟩
  exact ⟨E,T',_,rfl,hD,PB.opN L hN hF,(SA.keep gB).op (Or.inl rfl) hF⟩
 have H2:Hid (∀ wB own1 T1 E1,DetR N T E1 T1→PSt w0 wB own1 a b p r O T1 T t→PStep wA wB own own1 a b→Calls Tryz.prog 56 #[.pointer (some ⟨r,0,none⟩),.int .i64 N] wB fun e w'=>∃ own',e=.returned (.int .i64 E1)∧PSt w0 w' own' a b p r O T1 T1 t∧PStep wA w' own own' a b):=fun wB own1 T1 E1 hD PB S1=>by
  refine (rrdetach PB.r N).mono ?_
  rintro e w' ⟨E,T',hD',rfl,hN,hF⟩
  obtain ⟨rfl,rfl⟩:=hD'.one hD
  exact ⟨_,rfl,PB.opR L hN hF,S1.op (Or.inr (Or.inl rfl)) hF⟩
 have HSA:Hid (PStep wA wA own own a b):=SA
 have HPA:Hid (PSt w0 wA own a b p r O T T t):=PA
 have S0:=HO wA own SA
 have HW:Hid (wA=w.alloc (.cells #[.int .i64 2,.int .i64 N,net,.slice lo ln lc,.bool fit,.bool fast,.slice bo bn bc] 55)):=hwA
 clear hP hb hS hl PA SA HO g hwA zA
 go_enter Tryz.func24,Tryz.ntmps24
 go_wp2
 rw [← HW.out]
 go_region_held3 (fun w'=>w'.cell? ⟨pb,0,none⟩=some (.pointer (some ⟨p,0,none⟩))∧w'.cell? ⟨pb,1,none⟩=some (.pointer (some ⟨r,0,none⟩))∧w'.cell? ⟨pb,2,none⟩=some (.pointer (some ⟨O,0,none⟩))∧w'.cell? ⟨w.heap.size,1,none⟩=some (.int .i64 N)∧w'.cell? ⟨w.heap.size,3,none⟩=some (.slice lo ln lc)∧w'.cell? ⟨w.heap.size,4,none⟩=some (.bool fit)∧w'.cell? ⟨w.heap.size,5,none⟩=some (.bool fast)∧w'.cell? ⟨w.heap.size,6,none⟩=some (.slice bo bn bc))
  (first | exact S0 | assumption)
  ((go_at_call 55;refine (H1.out _ (grown_drew (grown_refl _ _))).mono ?_;rintro e w1 ⟨E,T1,own1,rfl,hD1,P1,S1⟩;have Q1:=HOp.out _ _ S1))
 go_wp2
 go_region_held3 (fun w'=>w'.cell? ⟨pb,0,none⟩=some (.pointer (some ⟨p,0,none⟩))∧w'.cell? ⟨pb,1,none⟩=some (.pointer (some ⟨r,0,none⟩))∧w'.cell? ⟨pb,2,none⟩=some (.pointer (some ⟨O,0,none⟩))∧w'.cell? ⟨w.heap.size,1,none⟩=some (.int .i64 N)∧w'.cell? ⟨w.heap.size,3,none⟩=some (.slice lo ln lc)∧w'.cell? ⟨w.heap.size,4,none⟩=some (.bool fit)∧w'.cell? ⟨w.heap.size,5,none⟩=some (.bool fast)∧w'.cell? ⟨w.heap.size,6,none⟩=some (.slice bo bn bc))
  (first | exact Q1 | assumption)
  ((go_at_call 56;refine (H2.out _ _ _ _ hD1 (P1.keep (grown_drew (grown_refl _ _))) (S1.keep (grown_drew (grown_refl _ _)))).mono ?_;rintro e w2 ⟨own2,rfl,P2,S2⟩;have Q2:=HOp.out _ _ S2))
 go_wp2
 go_ret
 exact ⟨by simp,own2,T1,t,P2,HIn.out _ _ S2,by omega,detR_d hD1⟩
set_option maxHeartbeats 2000000 in
theorem play_dropped0 (L:Lb a b) (hP:PSt w0 w own a b p r O T T t) (hb:Blk w pb 53 3 3 (prc p r O)) (h6:own pb=6) (hS:Sent w0 a1 a2 a3 a4) (hl:Laid w0 tb pv) (N:Int) (net:Value) (lo:Option Addr) (ln lc:Nat) (fit fast:Bool) (bo:Option Addr) (bn bc:Nat) :
  Calls Tryz.prog 24 #[.pointer (some ⟨pb,0,none⟩),.agg #[.int .i64 5,.int .i64 N,net,.slice lo ln lc,.bool fit,.bool fast,.slice bo bn bc]] w fun e w'=>e=.returned (.bool true)∧PSt w0 w' own a b p r O T T t∧PStep w w' own own a b:=by
 have HO:=ops_new L hP hb h6 5 N net lo ln lc fit fast bo bn bc
 have g:=World.grownBy_alloc w (.cells #[.int .i64 5,.int .i64 N,net,.slice lo ln lc,.bool fit,.bool fast,.slice bo bn bc] 55) none
 obtain ⟨wA,hwA⟩:∃ wA,wA=w.alloc (.cells #[.int .i64 5,.int .i64 N,net,.slice lo ln lc,.bool fit,.bool fast,.slice bo bn bc] 55):=⟨_,rfl⟩
 rw [← hwA] at HO g
 have PA:=hP.keep g
 have SA:=pstep_refl PA.ow a b
 have zA:∀ k,wA.heap.size≤k→own k=0:=fun k hk=>Classical.byContradiction fun hn=>by have:=PA.ow.hi k hn;omega
 have HIn:Hid (∀ w' own',PStep wA w' own own' a b→PStep w w' own own' a b):=fun w' own'=>pstep_in L hP.ow g
 have HOp:Hid (∀ w' own',PStep wA w' own own' a b→OpS w' pb p r O w.heap.size N lo ln lc fit fast bo bn bc):=HO
 have H1:Hid (∀ wB,wA.grownBy wB none→Calls Tryz.prog 61 #[.pointer (some ⟨p,0,none⟩),.int .i64 N] wB fun e w'=>e=.returned (.int .i64 (drpV N T))∧PSt w0 w' own a b p r O T T t∧PStep wA w' own own a b):=fun wB gB=>by
  have PB:=PA.keep gB
  refine (ndropped PB.n (PB.bs L hS hl) N).mono ?_
  rintro e w' ⟨rfl,g'⟩
  exact ⟨rfl,PB.keep g',(SA.keep gB).keep g'⟩
 have H2:Hid (∀ wB,PSt w0 wB own a b p r O T T t→PStep wA wB own own a b→Calls Tryz.prog 62 #[.pointer (some ⟨r,0,none⟩),.int .i64 N] wB fun e w'=>e=.returned (.int .i64 (drpV N T))∧PSt w0 w' own a b p r O T T t∧PStep wA w' own own a b):=fun wB PB S1=>by
  refine (rrdropped PB.r N).mono ?_
  rintro e w' ⟨rfl,g'⟩
  exact ⟨rfl,PB.keep g',S1.keep g'⟩
 generalize drpV N T=dv at H1 H2
 have HSA:Hid (PStep wA wA own own a b):=SA
 have HPA:Hid (PSt w0 wA own a b p r O T T t):=PA
 have S0:=HO wA own SA
 have HW:Hid (wA=w.alloc (.cells #[.int .i64 5,.int .i64 N,net,.slice lo ln lc,.bool fit,.bool fast,.slice bo bn bc] 55)):=hwA
 clear hP hb hS hl PA SA HO g hwA zA
 go_enter Tryz.func24,Tryz.ntmps24
 go_wp2
 rw [← HW.out]
 go_region_held3 (fun w'=>w'.cell? ⟨pb,0,none⟩=some (.pointer (some ⟨p,0,none⟩))∧w'.cell? ⟨pb,1,none⟩=some (.pointer (some ⟨r,0,none⟩))∧w'.cell? ⟨pb,2,none⟩=some (.pointer (some ⟨O,0,none⟩))∧w'.cell? ⟨w.heap.size,1,none⟩=some (.int .i64 N)∧w'.cell? ⟨w.heap.size,3,none⟩=some (.slice lo ln lc)∧w'.cell? ⟨w.heap.size,4,none⟩=some (.bool fit)∧w'.cell? ⟨w.heap.size,5,none⟩=some (.bool fast)∧w'.cell? ⟨w.heap.size,6,none⟩=some (.slice bo bn bc))
  (first | exact S0 | assumption)
  ((go_at_call 61;refine (H1.out _ (grown_drew (grown_refl _ _))).mono ?_;rintro e w1 ⟨rfl,P1,S1⟩;have Q1:=HOp.out _ _ S1))
 go_wp2
 go_region_held3 (fun w'=>w'.cell? ⟨pb,0,none⟩=some (.pointer (some ⟨p,0,none⟩))∧w'.cell? ⟨pb,1,none⟩=some (.pointer (some ⟨r,0,none⟩))∧w'.cell? ⟨pb,2,none⟩=some (.pointer (some ⟨O,0,none⟩))∧w'.cell? ⟨w.heap.size,1,none⟩=some (.int .i64 N)∧w'.cell? ⟨w.heap.size,3,none⟩=some (.slice lo ln lc)∧w'.cell? ⟨w.heap.size,4,none⟩=some (.bool fit)∧w'.cell? ⟨w.heap.size,5,none⟩=some (.bool fast)∧w'.cell? ⟨w.heap.size,6,none⟩=some (.slice bo bn bc))
  (first | exact Q1 | assumption)
  ((go_at_call 62;refine (H2.out _ (P1.keep (grown_drew (grown_refl _ _))) (S1.keep (grown_drew (grown_refl _ _)))).mono ?_;rintro e w2 ⟨rfl,P2,S2⟩;have Q2:=HOp.out _ _ S2))
 go_wp2
 go_ret
 exact ⟨by simp,P2,HIn.out _ _ S2⟩
theorem play_dropped (L:Lb a b) (hP:PSt w0 w own a b p r O T T t) (hb:Blk w pb 53 3 3 (prc p r O)) (h6:own pb=6) (hS:Sent w0 a1 a2 a3 a4) (hl:Laid w0 tb pv) (N:Int) (net:Value) (lo:Option Addr) (ln lc:Nat) (fit fast:Bool) (bo:Option Addr) (bn bc:Nat) :
  Calls Tryz.prog 24 #[.pointer (some ⟨pb,0,none⟩),.agg #[.int .i64 5,.int .i64 N,net,.slice lo ln lc,.bool fit,.bool fast,.slice bo bn bc]] w fun e w'=>e=.returned (.bool true)∧Pl w0 w own a b p r O T t w' :=
 (play_dropped0 L hP hb h6 hS hl N net lo ln lc fit fast bo bn bc).mono fun e w' h=>⟨h.1,own,T,t,h.2.1,h.2.2,by omega,fun _ _=>by omega⟩
set_option maxHeartbeats 4000000 in
theorem play_frame (L:Lb a b) (hP:PSt w0 w own a b p r O T T t) (hb:Blk w pb 53 3 3 (prc p r O)) (h6:own pb=6) (hS:Sent w0 a1 a2 a3 a4) (hl:Laid w0 tb pv) (N:Int) (net:Value) (lo:Option Addr) (ln lc:Nat) (fit fast:Bool) (bo:Option Addr) (bn bc:Nat) (gb:Nat→Int) (hbn:bn≤140737488355320) (hbc:bn≤bc) (hgb:Oct gb) (hbs:Src w0 .u8 bo bn gb) (hd:∀ i,i<8→(T i).d<9223372036854775807) :
  Calls Tryz.prog 24 #[.pointer (some ⟨pb,0,none⟩),.agg #[.int .i64 3,.int .i64 N,net,.slice lo ln lc,.bool fit,.bool fast,.slice bo bn bc]] w fun e w'=>e=.returned (.bool true)∧Pl w0 w own a b p r O T t w':=by
 have HO:=ops_new L hP hb h6 3 N net lo ln lc fit fast bo bn bc
 have g:=World.grownBy_alloc w (.cells #[.int .i64 3,.int .i64 N,net,.slice lo ln lc,.bool fit,.bool fast,.slice bo bn bc] 55) none
 obtain ⟨wA,hwA⟩:∃ wA,wA=w.alloc (.cells #[.int .i64 3,.int .i64 N,net,.slice lo ln lc,.bool fit,.bool fast,.slice bo bn bc] 55):=⟨_,rfl⟩
 rw [← hwA] at HO g
 have PA:=hP.keep g
 have SA:=pstep_refl PA.ow a b
 have zA:∀ k,wA.heap.size≤k→own k=0:=fun k hk=>Classical.byContradiction fun hn=>by have:=PA.ow.hi k hn;omega
 have HIn:Hid (∀ w' own',PStep wA w' own own' a b→PStep w w' own own' a b):=fun w' own'=>pstep_in L hP.ow g
 have HOp:Hid (∀ w' own',PStep wA w' own own' a b→OpS w' pb p r O w.heap.size N lo ln lc fit fast bo bn bc):=HO
 have HBy:Hid (∀ wB,wA.grownBy wB none→Calls Tryz.prog 12 #[.slice bo bn bc] wB fun e w'=>∃ H,e=.returned (.slice (some ⟨H,0,none⟩) bn (bn+4))∧(wA.heap.size≤H∧Blk w' H 5 (bn+4) (bn+4) (ints .u8 (pad gb bn))∧own H=0)∧wA.grownBy w' none):=fun wB gB=>by
  refine (bytes_any bo bn bc gb wB (by omega) (hbs.keep (PA.keep gB).ow.g)).mono ?_
  rintro e w' ⟨H,rfl,hH,g',hB⟩
  have:=gB.size
  exact ⟨H,rfl,⟨by omega,hB,zA H (by omega)⟩,grown_trans gB g'⟩
 have H1:Hid (∀ wB H,wA.grownBy wB none→wA.heap.size≤H→Blk wB H 5 (bn+4) (bn+4) (ints .u8 (pad gb bn))→own H=0→Calls Tryz.prog 57 #[.pointer (some ⟨p,0,none⟩),.slice (some ⟨H,0,none⟩) bn (bn+4)] wB fun e w'=>∃ own',e=.returned (.int .i64 (frmE bn))∧(Blk w' H 5 (bn+4) (bn+4) (ints .u8 (pad gb bn))∧own' H=0)∧PSt w0 w' own' a b p r O (frmT T gb bn) T t∧PStep wA w' own own' a b):=fun wB H gB hH hB h0=>by
  have PB:=PA.keep gB
  refine (nframe PB.n (PB.bs L hS hl) (some ⟨H,0,none⟩) bn (bn+4) gb (by unfold maxLen;omega) (by omega) hgb (pad_src hB) (fun _ k hk hu=>by cases hk;exact L.a0 (hu.symm.trans h0)) hd).mono ?_
  rintro e w' ⟨rfl,hN,hF⟩
  exact ⟨_,rfl,⟨hB.same (hF.same H hB.lt (fun e=>L.a0 (e.symm.trans h0))),by rw [lab_old hB.lt];exact h0⟩,PB.opN L hN hF,(SA.keep gB).op (Or.inl rfl) hF⟩
 have H2:Hid (∀ wB own1 H,Blk wB H 5 (bn+4) (bn+4) (ints .u8 (pad gb bn))→own1 H=0→PSt w0 wB own1 a b p r O (frmT T gb bn) T t→PStep wA wB own own1 a b→Calls Tryz.prog 58 #[.pointer (some ⟨r,0,none⟩),.slice bo bn bc] wB fun e w'=>∃ own',e=.returned (.int .i64 (frmE bn))∧(Blk w' H 5 (bn+4) (bn+4) (ints .u8 (pad gb bn))∧own' H=0)∧PSt w0 w' own' a b p r O (frmT T gb bn) (frmT T gb bn) t∧PStep wA w' own own' a b):=fun wB own1 H hB h0 PB S1=>by
  refine (rrframe PB.r bo bn bc gb (by unfold maxLen;omega) hbc hgb (hbs.keep PB.ow.g) (fun hp k hk hu=>?_) hd).mono ?_
  ·obtain ⟨z,off,e,hr⟩:=hbs hp
   rw [e] at hk
   cases hk
   have h1:=World.block_lt_of_cell? w0 _ (hr 0 hp)
   have h2:=PB.ow.lo z (by rw [hu];exact L.b0)
   dsimp only at h1
   omega
  ·rintro e w' ⟨rfl,hN,hF⟩
   exact ⟨_,rfl,⟨hB.same (hF.same H hB.lt (fun e=>L.b0 (e.symm.trans h0))),by rw [lab_old hB.lt];exact h0⟩,PB.opR L hN hF,S1.op (Or.inr (Or.inl rfl)) hF⟩
 have H3:Hid (∀ wB own1 T1 H,Blk wB H 5 (bn+4) (bn+4) (ints .u8 (pad gb bn))→PSt w0 wB own1 a b p r O T1 T1 t→PStep wA wB own own1 a b→Calls Tryz.prog 15 #[.slice (some ⟨H,0,none⟩) bn (bn+4),.slice bo bn bc] wB fun e w'=>e=.returned (.bool true)∧Blk w' H 5 (bn+4) (bn+4) (ints .u8 (pad gb bn))∧PSt w0 w' own1 a b p r O T1 T1 t∧PStep wA w' own own1 a b):=fun wB own1 T1 H hB PB S1=>by
  refine (kept_any H bo bn bc (bn+4) gb _ wB (by omega) (Nat.le_refl _) hB (hbs.keep PB.ow.g)).mono ?_
  rintro e w' ⟨rfl,g'⟩
  exact ⟨rfl,hB.keep g' (by simp),PB.keep g',S1.keep g'⟩
 have H4:Hid (∀ wB own1 T1 H,wA.heap.size≤H→own1 H=0→Blk wB H 5 (bn+4) (bn+4) (ints .u8 (pad gb bn))→PSt w0 wB own1 a b p r O T1 T1 t→PStep wA wB own own1 a b→Calls Tryz.prog 54 #[.slice (some ⟨H,0,none⟩) bn (bn+4)] wB fun e w'=>e=.returned (.tuple #[])∧PSt w0 w' own1 a b p r O T1 T1 t∧PStep wA w' own own1 a b):=fun wB own1 T1 H hH h0 hB PB S1=>by
  refine (spoiled_any H bn _ wB (by omega) hB).mono ?_
  rintro e w' ⟨rfl,g'⟩
  exact ⟨rfl,PB.spoil L g' (Nat.le_trans PA.ow.g.size hH) h0,S1.spoil g' hH⟩
 clear hbs hgb hd
 have HSA:Hid (PStep wA wA own own a b):=SA
 have HPA:Hid (PSt w0 wA own a b p r O T T t):=PA
 have S0:=HO wA own SA
 have HW:Hid (wA=w.alloc (.cells #[.int .i64 3,.int .i64 N,net,.slice lo ln lc,.bool fit,.bool fast,.slice bo bn bc] 55)):=hwA
 clear hP hb hS hl PA SA HO g hwA zA
 go_enter Tryz.func24,Tryz.ntmps24
 go_wp2_with (first | (go_at_call 12;refine (HBy.out _ (by rw [HW.out];exact grown_refl _ _)).mono ?_;rintro e w1 ⟨H,rfl,⟨hH,hB1,h01⟩,gA1⟩;obtain ⟨q0,q1,q2,q3,q4,q5,q6,q7⟩:=HOp.out _ _ (HSA.out.keep gA1)) | (go_at_call 57;refine (H1.out _ H gA1 hH hB1 h01).mono ?_;rintro e w2 ⟨own2,rfl,⟨hB2,h02⟩,P2,S2⟩;have Q2:=HOp.out _ _ S2;clear q0 q1 q2 q3 q4 q5 q6 q7))
 go_region_held3 (fun w'=>w'.cell? ⟨pb,0,none⟩=some (.pointer (some ⟨p,0,none⟩))∧w'.cell? ⟨pb,1,none⟩=some (.pointer (some ⟨r,0,none⟩))∧w'.cell? ⟨pb,2,none⟩=some (.pointer (some ⟨O,0,none⟩))∧w'.cell? ⟨w.heap.size,1,none⟩=some (.int .i64 N)∧w'.cell? ⟨w.heap.size,3,none⟩=some (.slice lo ln lc)∧w'.cell? ⟨w.heap.size,4,none⟩=some (.bool fit)∧w'.cell? ⟨w.heap.size,5,none⟩=some (.bool fast)∧w'.cell? ⟨w.heap.size,6,none⟩=some (.slice bo bn bc))
  (first | exact Q2 | assumption)
  ((go_at_call 58;refine (H2.out _ own2 H hB2.drew h02 (P2.keep (grown_drew (grown_refl _ _))) (S2.keep (grown_drew (grown_refl _ _)))).mono ?_;rintro e w3 ⟨own3,rfl,⟨hB3,h03⟩,P3,S3⟩;have Q3:=HOp.out _ _ S3))
 have Q4:=Q3
 unfold OpS at Q4
 obtain ⟨x0,x1,x2,x3,x4,x5,x6,x7⟩:=Q4
 go_wp2_with (first | (go_at_call 15;refine (H3.out _ own3 _ H hB3 P3 S3).mono ?_;rintro e w4 ⟨rfl,hB4,P4,S4⟩) | (go_at_call 54;refine (H4.out _ own3 _ H hH h03 hB4 P4 S4).mono ?_;rintro e w5 ⟨rfl,P5,S5⟩))
 go_ret
 exact ⟨by simp,own3,_,t,P5,HIn.out _ _ S5,by omega,frm_d T gb bn⟩
set_option maxHeartbeats 4000000 in
theorem play_receive (L:Lb a b) (hP:PSt w0 w own a b p r O T T t) (hb:Blk w pb 53 3 3 (prc p r O)) (h6:own pb=6) (hS:Sent w0 a1 a2 a3 a4) (hl:Laid w0 tb pv) (N:Int) (net:Value) (lo:Option Addr) (ln lc:Nat) (fit fast:Bool) (bo:Option Addr) (bn bc:Nat) (ht:t≤1650000000000) :
  Calls Tryz.prog 24 #[.pointer (some ⟨pb,0,none⟩),.agg #[.int .i64 4,.int .i64 N,net,.slice lo ln lc,.bool fit,.bool fast,.slice bo bn bc]] w fun e w'=>e=.returned (.bool true)∧Pl w0 w own a b p r O T t w':=by
 have HO:=ops_new L hP hb h6 4 N net lo ln lc fit fast bo bn bc
 have g:=World.grownBy_alloc w (.cells #[.int .i64 4,.int .i64 N,net,.slice lo ln lc,.bool fit,.bool fast,.slice bo bn bc] 55) none
 obtain ⟨wA,hwA⟩:∃ wA,wA=w.alloc (.cells #[.int .i64 4,.int .i64 N,net,.slice lo ln lc,.bool fit,.bool fast,.slice bo bn bc] 55):=⟨_,rfl⟩
 rw [← hwA] at HO g
 have PA:=hP.keep g
 have SA:=pstep_refl PA.ow a b
 have zA:∀ k,wA.heap.size≤k→own k=0:=fun k hk=>Classical.byContradiction fun hn=>by have:=PA.ow.hi k hn;omega
 have HIn:Hid (∀ w' own',PStep wA w' own own' a b→PStep w w' own own' a b):=fun w' own'=>pstep_in L hP.ow g
 have HOp:Hid (∀ w' own',PStep wA w' own own' a b→OpS w' pb p r O w.heap.size N lo ln lc fit fast bo bn bc):=HO
 have H1:Hid (∀ wB,wA.grownBy wB none→Calls Tryz.prog 59 #[.pointer (some ⟨p,0,none⟩),.int .i64 N] wB fun e w'=>∃ E l ao c,e=.returned (.tuple #[.slice ao (l:Nat) c,.int .i64 E])∧∃ gb T' own',RecR N T E l gb T'∧(Held w' 5 1 ao l c (ints .u8 gb)∧l≤2000∧(∀ k,own? ao=some k→own' k=0∧k<w'.heap.size∧w0.heap.size≤k)∧(∀ k,own? ao=some k→k<wA.heap.size→own k=a))∧PSt w0 w' own' a b p r O T' T t∧PStep wA w' own own' a b):=fun wB gB=>by
  have PB:=PA.keep gB
  refine (nreceive PB.n (PB.bs L hS hl) N).mono ?_
  rintro e w' ⟨E,l,gb,T',ao,c,hR,rfl,hH,_,hl2,hU,hN,hF⟩
  exact ⟨E,l,ao,c,rfl,gb,T',_,hR,⟨hH,hl2,fun k hk=>⟨give_at hk,hH.ltb hk,PB.ow.lo k (by rw [hU k hk];exact L.a0)⟩,fun k hk _=>hU k hk⟩,PB.opRec L hN hU hF,(SA.keep gB).recv hU L hF⟩
 have H2:Hid (∀ wB own1 T1 E1 l ao c gb,RecR N T E1 l gb T1→Held wB 5 1 ao l c (ints .u8 gb)→(∀ k,own? ao=some k→own1 k=0∧k<wB.heap.size∧w0.heap.size≤k)→PSt w0 wB own1 a b p r O T1 T t→PStep wA wB own own1 a b→Calls Tryz.prog 60 #[.pointer (some ⟨r,0,none⟩),.int .i64 N] wB fun e w'=>∃ own',e=.returned (.tuple #[.string (stOf l gb),.int .i64 E1])∧(Held w' 5 1 ao l c (ints .u8 gb)∧(∀ k,own? ao=some k→own' k=0∧k<w'.heap.size∧w0.heap.size≤k))∧PSt w0 w' own' a b p r O T1 T1 t∧PStep wA w' own own' a b):=fun wB own1 T1 E1 l ao c gb hR hH h0 PB S1=>by
  refine (rrreceive PB.r N).mono ?_
  rintro e w' ⟨E,l',g',T',hR',rfl,hN,hF⟩
  obtain ⟨rfl,rfl,rfl,rfl⟩:=hR'.one hR
  exact ⟨_,rfl,⟨hH.same fun k hk=>hF.same k (hH.ltb hk) (fun e=>L.b0 (e.symm.trans (h0 k hk).1)),fun k hk=>⟨by rw [lab_old (h0 k hk).2.1];exact (h0 k hk).1,Nat.lt_of_lt_of_le (h0 k hk).2.1 hF.size,(h0 k hk).2.2⟩⟩,PB.opR L hN hF,S1.op (Or.inr (Or.inl rfl)) hF⟩
 have H3:Hid (∀ wB own1 T1 (l:Nat) ao c gb,l≤2000→Held wB 5 1 ao l c (ints .u8 gb)→(∀ k,own? ao=some k→own1 k=0∧k<wB.heap.size∧w0.heap.size≤k)→(∀ k,own? ao=some k→k<wA.heap.size→own k=a)→PSt w0 wB own1 a b p r O T1 T1 t→PStep wA wB own own1 a b→Calls Tryz.prog 18 #[.pointer (some ⟨O,0,none⟩),.slice ao l c] wB fun e w'=>∃ own',e=.returned (.tuple #[])∧PSt w0 w' own' a b p r O T1 T1 (t+1)∧PStep wA w' own own' a b):=fun wB own1 T1 l ao c gb hl2 hH h0 hm PB S1=>by
  refine (bst_take PB.o ht ao l c _ (by omega) hH (fun k hk hu=>by have:=(h0 k hk).1;rw [hu] at this;exact absurd this (by decide))).mono ?_
  rintro e w' ⟨rfl,hB,hF⟩
  exact ⟨_,rfl,PB.opTake L hB h0 hF,S1.take hm hF⟩
 have HC:Hid (∀ wB (l:Nat) ao c gb,Held wB 5 1 ao l c (ints .u8 gb)→(convert 25 9 (.slice ao l c)).run Tryz.prog wB=.ok (.string (stOf l gb)) wB):=fun wB l ao c gb hH=>conv_str c (held_src3 hH) (fun e=>by
  rcases hH with ⟨_,h,_⟩ | ⟨B,h,_⟩
  ·exact h
  ·rw [h] at e;cases e)
 have HSA:Hid (PStep wA wA own own a b):=SA
 have HPA:Hid (PSt w0 wA own a b p r O T T t):=PA
 have S0:=HO wA own SA
 have HW:Hid (wA=w.alloc (.cells #[.int .i64 4,.int .i64 N,net,.slice lo ln lc,.bool fit,.bool fast,.slice bo bn bc] 55)):=hwA
 clear hP hb hS hl PA SA HO g hwA zA
 go_enter Tryz.func24,Tryz.ntmps24
 go_wp2
 rw [← HW.out]
 go_region_held3 (fun w'=>w'.cell? ⟨pb,0,none⟩=some (.pointer (some ⟨p,0,none⟩))∧w'.cell? ⟨pb,1,none⟩=some (.pointer (some ⟨r,0,none⟩))∧w'.cell? ⟨pb,2,none⟩=some (.pointer (some ⟨O,0,none⟩))∧w'.cell? ⟨w.heap.size,1,none⟩=some (.int .i64 N)∧w'.cell? ⟨w.heap.size,3,none⟩=some (.slice lo ln lc)∧w'.cell? ⟨w.heap.size,4,none⟩=some (.bool fit)∧w'.cell? ⟨w.heap.size,5,none⟩=some (.bool fast)∧w'.cell? ⟨w.heap.size,6,none⟩=some (.slice bo bn bc))
  (first | exact S0 | assumption)
  ((go_at_call 59;refine (H1.out _ (grown_drew (grown_refl _ _))).mono ?_;rintro e w1 ⟨E,l,ao,c,rfl,gb,T1,own1,hR1,⟨hH1,hl1,h01,hm1⟩,P1,S1⟩;have Q1:=HOp.out _ _ S1))
 go_wp2
 go_region_held3 (fun w'=>w'.cell? ⟨pb,0,none⟩=some (.pointer (some ⟨p,0,none⟩))∧w'.cell? ⟨pb,1,none⟩=some (.pointer (some ⟨r,0,none⟩))∧w'.cell? ⟨pb,2,none⟩=some (.pointer (some ⟨O,0,none⟩))∧w'.cell? ⟨w.heap.size,1,none⟩=some (.int .i64 N)∧w'.cell? ⟨w.heap.size,3,none⟩=some (.slice lo ln lc)∧w'.cell? ⟨w.heap.size,4,none⟩=some (.bool fit)∧w'.cell? ⟨w.heap.size,5,none⟩=some (.bool fast)∧w'.cell? ⟨w.heap.size,6,none⟩=some (.slice bo bn bc))
  (first | exact Q1 | assumption)
  ((go_at_call 60;refine (H2.out _ own1 T1 E l ao c gb hR1 (hH1.keep (grown_drew (grown_refl _ _)) (Or.inl rfl)) h01 (P1.keep (grown_drew (grown_refl _ _))) (S1.keep (grown_drew (grown_refl _ _)))).mono ?_;rintro e w2 ⟨own2,rfl,⟨hH2,h02⟩,P2,S2⟩;have Q2:=HOp.out _ _ S2))
 have cv:=HC.out _ l ao c gb hH2
 obtain ⟨x0,x1,x2,x3,x4,x5,x6,x7⟩:=id Q2
 go_wp2_with (go_at_call 18;refine (H3.out _ own2 T1 l ao c gb hl1 hH2 h02 hm1 P2 S2).mono ?_;rintro e w3 ⟨own3,rfl,P3,S3⟩)
 go_ret
 exact ⟨rfl,own3,T1,t+1,P3,HIn.out _ _ S3,by omega,recR_d hR1⟩
set_option maxHeartbeats 4000000 in
theorem play_attach (L:Lb a b) (hP:PSt w0 w own a b p r O T T t) (hb:Blk w pb 53 3 3 (prc p r O)) (h6:own pb=6) (hS:Sent w0 a1 a2 a3 a4) (hl:Laid w0 tb pv) (N:Int) (net:Value) (lo:Option Addr) (ln lc:Nat) (fit fast:Bool) (bo:Option Addr) (bn bc:Nat) (q:Nat→Int) (hln:ln≤4398046511000) (hls:SrcI w0 lo ln q) (hi64:∀ j,j<4*ln→I64 (q j)) :
  Calls Tryz.prog 24 #[.pointer (some ⟨pb,0,none⟩),.agg #[.int .i64 1,.int .i64 N,net,.slice lo ln lc,.bool fit,.bool fast,.slice bo bn bc]] w fun e w'=>e=.returned (.bool true)∧Pl w0 w own a b p r O T t w':=by
 have HO:=ops_new L hP hb h6 1 N net lo ln lc fit fast bo bn bc
 have g:=World.grownBy_alloc w (.cells #[.int .i64 1,.int .i64 N,net,.slice lo ln lc,.bool fit,.bool fast,.slice bo bn bc] 55) none
 obtain ⟨wA,hwA⟩:∃ wA,wA=w.alloc (.cells #[.int .i64 1,.int .i64 N,net,.slice lo ln lc,.bool fit,.bool fast,.slice bo bn bc] 55):=⟨_,rfl⟩
 rw [← hwA] at HO g
 have PA:=hP.keep g
 have SA:=pstep_refl PA.ow a b
 have zA:∀ k,wA.heap.size≤k→own k=0:=fun k hk=>Classical.byContradiction fun hn=>by have:=PA.ow.hi k hn;omega
 have HIn:Hid (∀ w' own',PStep wA w' own own' a b→PStep w w' own own' a b):=fun w' own'=>pstep_in L hP.ow g
 have HOp:Hid (∀ w' own',PStep wA w' own own' a b→OpS w' pb p r O w.heap.size N lo ln lc fit fast bo bn bc):=HO
 have HFi:Hid (∀ wB,wA.grownBy wB none→Calls Tryz.prog 11 #[.agg #[.slice lo ln lc,.bool fit]] wB fun e w'=>∃ ao m c gf,e=.returned (.slice ao (m:Nat) c)∧(Oct gf∧m≤35184372090000∧Src w' .u8 ao m gf∧(∀ x,own? ao=some x→own x=0))∧wA.grownBy w' none):=fun wB gB=>by
  refine (filter_new lo ln lc fit q wB hln (hls.keep (PA.keep gB).ow.g) hi64).mono ?_
  rintro e w' ⟨ao,m,c,gf,rfl,h1,h2,h3,h4,g'⟩
  have:=gB.size
  exact ⟨ao,m,c,gf,rfl,⟨h1,by omega,h3,fun x hx=>zA x (by have:=h4 x hx;omega)⟩,grown_trans gB g'⟩
 have HBy:Hid (∀ wB ao (m c:Nat) gf,m≤35184372090000→Src wB .u8 ao m gf→(∀ x,own? ao=some x→own x=0)→wA.grownBy wB none→Calls Tryz.prog 12 #[.slice ao m c] wB fun e w'=>∃ H,e=.returned (.slice (some ⟨H,0,none⟩) m (m+4))∧(wA.heap.size≤H∧(Blk w' H 5 (m+4) (m+4) (ints .u8 (pad gf m))∧own H=0∧Src w' .u8 ao m gf∧(0<m→∀ x,own? ao=some x→x<w'.heap.size∧own x=0)))∧wA.grownBy w' none):=fun wB ao m c gf hm hs h0 gB=>by
  refine (bytes_any ao m c gf wB (by omega) hs).mono ?_
  rintro e w' ⟨H,rfl,hH,g',hB⟩
  have:=gB.size
  have hs':=hs.keep g'
  exact ⟨H,rfl,⟨by omega,hB,zA H (by omega),hs',fun hp x hx=>⟨by
   obtain ⟨z,off,e,hr⟩:=hs' hp
   rw [e] at hx
   cases hx
   exact World.block_lt_of_cell? w' _ (hr 0 hp),h0 x hx⟩⟩,grown_trans gB g'⟩
 have H1:Hid (∀ wB ao (m:Nat) gf H,m≤35184372090000→Oct gf→wA.grownBy wB none→(Blk wB H 5 (m+4) (m+4) (ints .u8 (pad gf m))∧own H=0∧Src wB .u8 ao m gf∧(0<m→∀ x,own? ao=some x→x<wB.heap.size∧own x=0))→Calls Tryz.prog 52 #[.pointer (some ⟨p,0,none⟩),.int .i64 N,.slice (some ⟨H,0,none⟩) m (m+4),.bool fast] wB fun e w'=>∃ E T' own',e=.returned (.int .i64 E)∧AttR N gf m T E T'∧(Blk w' H 5 (m+4) (m+4) (ints .u8 (pad gf m))∧own' H=0∧Src w' .u8 ao m gf∧(0<m→∀ x,own? ao=some x→x<w'.heap.size∧own' x=0))∧PSt w0 w' own' a b p r O T' T t∧PStep wA w' own own' a b):=fun wB ao m gf H hm hg gB ⟨hB,h0,hs,hx⟩=>by
  have PB:=PA.keep gB
  refine (nattach PB.n (PB.bs L hS hl) N (some ⟨H,0,none⟩) m (m+4) gf fast (by unfold maxLen;omega) (by omega) hg (pad_src hB)).mono ?_
  rintro e w' ⟨E,T',hA,rfl,hN,hF⟩
  refine ⟨E,T',_,rfl,hA,⟨hB.same (hF.same H hB.lt (fun e=>L.a0 (e.symm.trans h0))),by rw [lab_old hB.lt];exact h0,?_,fun hp x hx'=>⟨Nat.lt_of_lt_of_le (hx hp x hx').1 hF.size,by rw [lab_old (hx hp x hx').1];exact (hx hp x hx').2⟩⟩,PB.opN L hN hF,(SA.keep gB).op (Or.inl rfl) hF⟩
  exact fun hp=>(hs.same fun x hx' hxl=>hF.same x hxl (fun e=>L.a0 (e.symm.trans (hx hp x hx').2))) hp
 have H2:Hid (∀ wB own1 T1 E1 ao (m c:Nat) gf H,m≤35184372090000→Oct gf→AttR N gf m T E1 T1→(Blk wB H 5 (m+4) (m+4) (ints .u8 (pad gf m))∧own1 H=0∧Src wB .u8 ao m gf∧(0<m→∀ x,own? ao=some x→x<wB.heap.size∧own1 x=0))→PSt w0 wB own1 a b p r O T1 T t→PStep wA wB own own1 a b→Calls Tryz.prog 53 #[.pointer (some ⟨r,0,none⟩),.int .i64 N,.slice ao m c] wB fun e w'=>∃ own',e=.returned (.int .i64 E1)∧(Blk w' H 5 (m+4) (m+4) (ints .u8 (pad gf m))∧own' H=0∧Src w' .u8 ao m gf∧(0<m→∀ x,own? ao=some x→x<w'.heap.size∧own' x=0))∧PSt w0 w' own' a b p r O T1 T1 t∧PStep wA w' own own' a b):=fun wB own1 T1 E1 ao m c gf H hm hg hA0 ⟨hB,h0,hs,hx⟩ PB S1=>by
  refine (rrattach PB.r N ao m c gf (by unfold maxLen;omega) hg hs).mono ?_
  rintro e w' ⟨E,T',hA,rfl,hN,hF⟩
  obtain ⟨rfl,rfl⟩:=hA.one hA0
  refine ⟨_,rfl,⟨hB.same (hF.same H hB.lt (fun e=>L.b0 (e.symm.trans h0))),by rw [lab_old hB.lt];exact h0,?_,fun hp x hx'=>⟨Nat.lt_of_lt_of_le (hx hp x hx').1 hF.size,by rw [lab_old (hx hp x hx').1];exact (hx hp x hx').2⟩⟩,PB.opR L hN hF,S1.op (Or.inr (Or.inl rfl)) hF⟩
  exact fun hp=>(hs.same fun x hx' hxl=>hF.same x hxl (fun e=>L.b0 (e.symm.trans (hx hp x hx').2))) hp
 have H3:Hid (∀ wB own1 T1 ao (m c:Nat) gf H,m≤35184372090000→(Blk wB H 5 (m+4) (m+4) (ints .u8 (pad gf m))∧own1 H=0∧Src wB .u8 ao m gf∧(0<m→∀ x,own? ao=some x→x<wB.heap.size∧own1 x=0))→PSt w0 wB own1 a b p r O T1 T1 t→PStep wA wB own own1 a b→Calls Tryz.prog 15 #[.slice (some ⟨H,0,none⟩) m (m+4),.slice ao m c] wB fun e w'=>e=.returned (.bool true)∧Blk w' H 5 (m+4) (m+4) (ints .u8 (pad gf m))∧PSt w0 w' own1 a b p r O T1 T1 t∧PStep wA w' own own1 a b):=fun wB own1 T1 ao m c gf H hm ⟨hB,h0,hs,hx⟩ PB S1=>by
  refine (kept_any H ao m c (m+4) gf _ wB (by omega) (Nat.le_refl _) hB hs).mono ?_
  rintro e w' ⟨rfl,g'⟩
  exact ⟨rfl,hB.keep g' (by simp),PB.keep g',S1.keep g'⟩
 have H4:Hid (∀ wB own1 T1 (m:Nat) gf H,m≤35184372090000→wA.heap.size≤H→own1 H=0→Blk wB H 5 (m+4) (m+4) (ints .u8 (pad gf m))→PSt w0 wB own1 a b p r O T1 T1 t→PStep wA wB own own1 a b→Calls Tryz.prog 54 #[.slice (some ⟨H,0,none⟩) m (m+4)] wB fun e w'=>e=.returned (.tuple #[])∧PSt w0 w' own1 a b p r O T1 T1 t∧PStep wA w' own own1 a b):=fun wB own1 T1 m gf H hm hH h0 hB PB S1=>by
  refine (spoiled_any H m _ wB (by omega) hB).mono ?_
  rintro e w' ⟨rfl,g'⟩
  exact ⟨rfl,PB.spoil L g' (Nat.le_trans PA.ow.g.size hH) h0,S1.spoil g' hH⟩
 clear hls hi64
 have HSA:Hid (PStep wA wA own own a b):=SA
 have HPA:Hid (PSt w0 wA own a b p r O T T t):=PA
 have S0:=HO wA own SA
 have HW:Hid (wA=w.alloc (.cells #[.int .i64 1,.int .i64 N,net,.slice lo ln lc,.bool fit,.bool fast,.slice bo bn bc] 55)):=hwA
 clear hP hb hS hl PA SA HO g hwA zA
 go_enter Tryz.func24,Tryz.ntmps24
 go_wp2_with (first | (go_at_call 11;refine (HFi.out _ (by rw [HW.out];exact grown_refl _ _)).mono ?_;rintro e w1 ⟨ao,m,c,gf,rfl,⟨hg1,hm1,hs1,hx1⟩,gA1⟩) | (go_at_call 12;refine (HBy.out _ ao m c gf hm1 hs1 hx1 gA1).mono ?_;rintro e w2 ⟨H,rfl,⟨hH,F2⟩,gA2⟩;have Q2:=HOp.out _ _ (HSA.out.keep gA2)))
 go_region_held3 (fun w'=>w'.cell? ⟨pb,0,none⟩=some (.pointer (some ⟨p,0,none⟩))∧w'.cell? ⟨pb,1,none⟩=some (.pointer (some ⟨r,0,none⟩))∧w'.cell? ⟨pb,2,none⟩=some (.pointer (some ⟨O,0,none⟩))∧w'.cell? ⟨w.heap.size,1,none⟩=some (.int .i64 N)∧w'.cell? ⟨w.heap.size,3,none⟩=some (.slice lo ln lc)∧w'.cell? ⟨w.heap.size,4,none⟩=some (.bool fit)∧w'.cell? ⟨w.heap.size,5,none⟩=some (.bool fast)∧w'.cell? ⟨w.heap.size,6,none⟩=some (.slice bo bn bc))
  (first | exact Q2 | assumption)
  ((go_at_call 52;refine (H1.out _ ao m gf H hm1 hg1 (grown_drew gA2) F2).mono ?_;rintro e w3 ⟨E,T3,own3,rfl,hA3,F3,P3,S3⟩;have Q3:=HOp.out _ _ S3))
 go_wp2
 go_region_held3 (fun w'=>w'.cell? ⟨pb,0,none⟩=some (.pointer (some ⟨p,0,none⟩))∧w'.cell? ⟨pb,1,none⟩=some (.pointer (some ⟨r,0,none⟩))∧w'.cell? ⟨pb,2,none⟩=some (.pointer (some ⟨O,0,none⟩))∧w'.cell? ⟨w.heap.size,1,none⟩=some (.int .i64 N)∧w'.cell? ⟨w.heap.size,3,none⟩=some (.slice lo ln lc)∧w'.cell? ⟨w.heap.size,4,none⟩=some (.bool fit)∧w'.cell? ⟨w.heap.size,5,none⟩=some (.bool fast)∧w'.cell? ⟨w.heap.size,6,none⟩=some (.slice bo bn bc))
  (first | exact Q3 | assumption)
  ((go_at_call 53;refine (H2.out w3.drew own3 T3 E ao m c gf H hm1 hg1 hA3 F3 (P3.keep (grown_drew (grown_refl _ _))) (S3.keep (grown_drew (grown_refl _ _)))).mono ?_;rintro e w4 ⟨own4,rfl,F4,P4,S4⟩;have Q4:=HOp.out _ _ S4))
 have h04:=F4.2.1
 obtain ⟨x0,x1,x2,x3,x4,x5,x6,x7⟩:=id Q4
 go_wp2_with (first | (go_at_call 15;refine (H3.out _ own4 T3 ao m c gf H hm1 F4 P4 S4).mono ?_;rintro e w5 ⟨rfl,hB5,P5,S5⟩) | (go_at_call 54;refine (H4.out _ own4 T3 m gf H hm1 hH h04 hB5 P5 S5).mono ?_;rintro e w6 ⟨rfl,P6,S6⟩))
 go_ret
 exact ⟨by simp,own4,T3,t,P6,HIn.out _ _ S6,by omega,attR_d hA3⟩
end
end Go.Proofs.YthbcfepbkkbjiaaGreatDoor
